package disk

import (
	"countersign/api"
	"fmt"
	"math"
	"math/rand"
	"slices"
	"strings"
	"testing"
)

const (
	least = math.MinInt
	most  = math.MaxInt
)

// modelWrite is a pending write of the model, byte by byte.
type modelWrite struct {
	at    int
	bytes []byte
}

// model is a disk by the document's words, one after the other: bytes that are set one by one.
type model struct {
	size    int
	safe    [][]byte
	pending []modelWrite
}

func newModel(sectors, size int) *model {
	m := &model{size: size}
	for range sectors {
		m.safe = append(m.safe, make([]byte, size))
	}
	return m
}

func (m *model) there(at int) bool {
	return 0 <= at && at < len(m.safe)
}

func (m *model) read(at int) (string, bool) {
	s, ok := m.safeOf(at)
	for _, w := range m.pending {
		if w.at == at {
			s = string(w.bytes)
		}
	}
	return s, ok
}

func (m *model) safeOf(at int) (string, bool) {
	if !m.there(at) {
		return "", false
	}
	return string(m.safe[at]), true
}

func (m *model) write(at int, text string) bool {
	if !m.there(at) || len(text) > m.size {
		return false
	}
	b := make([]byte, m.size)
	copy(b, text)
	m.pending = append(m.pending, modelWrite{at, b})
	return true
}

func (m *model) flush() {
	for _, w := range m.pending {
		for i, b := range w.bytes {
			m.safe[w.at][i] = b
		}
	}
	m.pending = nil
}

func (m *model) crash(keep []int) {
	for k, w := range m.pending {
		c := 0
		if k < len(keep) {
			c = keep[k]
		}
		for i, b := range w.bytes {
			if i < c {
				m.safe[w.at][i] = b
			}
		}
	}
	m.pending = nil
}

func (m *model) do(a api.Act) (string, bool) {
	switch a.Do {
	case 0:
		return m.read(a.At)
	case 1:
		return "", m.write(a.At, a.Text)
	case 2:
		m.flush()
		return "", true
	case 3:
		m.crash(a.Keep)
		return "", true
	}
	return "", false
}

// made is a new disk, which there is.
func made(t *testing.T, sectors, size int) *Disk {
	t.Helper()
	d, ok := New(sectors, size)
	if d == nil || !ok {
		t.Fatalf("no disk of %d sectors of %d bytes", sectors, size)
	}
	return d
}

// whole is a text with the bytes 0 behind it that a sector of the size has.
func whole(text string, size int) string {
	b := make([]byte, size)
	copy(b, text)
	return string(b)
}

// reads asks Read for a text and what is behind it, or for nothing beside false.
func reads(t *testing.T, name string, d *Disk, at int, want string, ok bool) {
	t.Helper()
	if s, got := d.Read(at); s != want || got != ok {
		t.Errorf("%s: Read(%d): %q, %v; want %q, %v", name, at, s, got, want, ok)
	}
}

// safe asks Safe as reads does Read.
func safe(t *testing.T, name string, d *Disk, at int, want string, ok bool) {
	t.Helper()
	if s, got := d.Safe(at); s != want || got != ok {
		t.Errorf("%s: Safe(%d): %q, %v; want %q, %v", name, at, s, got, want, ok)
	}
}

// noSectors are numbers near a disk's sectors and far from them, without one of its own.
func noSectors(d *Disk) []int {
	n := d.Sectors()
	return []int{-1, -2, -n, -n - 1, n, n + 1, 2 * n, 256, 257, least, least + 1, most, most - 1}
}

// alike asks a disk for all that it tells, and the model for the same.
func alike(t *testing.T, name string, d *Disk, m *model) {
	t.Helper()
	if d.Sectors() != len(m.safe) || d.Size() != m.size || d.Pending() != len(m.pending) {
		t.Errorf("%s: %d sectors of %d, %d pending; want %d of %d, %d", name, d.Sectors(), d.Size(), d.Pending(), len(m.safe), m.size, len(m.pending))
	}
	for at := range m.safe {
		s, ok := m.read(at)
		reads(t, name, d, at, s, ok)
		s, ok = m.safeOf(at)
		safe(t, name, d, at, s, ok)
	}
	for _, at := range noSectors(d) {
		reads(t, name, d, at, "", false)
		safe(t, name, d, at, "", false)
	}
}

// both are a new disk and its model.
func both(t *testing.T, sectors, size int) (*Disk, *model) {
	t.Helper()
	return made(t, sectors, size), newModel(sectors, size)
}

// puts writes to a disk and to its model what may be written.
func puts(t *testing.T, d *Disk, m *model, at int, text string) {
	t.Helper()
	if !d.Write(at, text) || !m.write(at, text) {
		t.Fatalf("Write(%d, %q): not written", at, text)
	}
}

// P8.1

func TestTheNumbersOfTheLimits(t *testing.T) {
	if api.MaxSectors != 256 || api.MinSector != 32 || api.MaxSector != 512 {
		t.Error("other numbers than the document's")
	}
}

func isNew(t *testing.T, sectors, size int) {
	t.Helper()
	d, ok := New(sectors, size)
	want := 1 <= sectors && sectors <= 256 && 32 <= size && size <= 512
	if ok != want || (d != nil) != want {
		t.Fatalf("New(%d, %d): %v, %v; want %v", sectors, size, d != nil, ok, want)
	}
	if ok && (d.Sectors() != sectors || d.Size() != size || d.Pending() != 0) {
		t.Errorf("New(%d, %d): %d sectors of %d, %d pending", sectors, size, d.Sectors(), d.Size(), d.Pending())
	}
}

func TestNewAtTheEdges(t *testing.T) {
	for _, sectors := range []int{least, least + 1, -256, -2, -1, 0, 1, 2, 255, 256, 257, 512, 1 << 16, 1 << 32, 1<<32 + 1, most - 1, most} {
		for _, size := range []int{least, least + 32, -512, -32, -1, 0, 1, 31, 32, 33, 511, 512, 513, 1 << 16, 1 << 32, 1<<32 + 32, most - 1, most} {
			isNew(t, sectors, size)
		}
	}
}

func TestNewOfEachNumber(t *testing.T) {
	for sectors := -3; sectors < 300; sectors++ {
		isNew(t, sectors, 32)
		isNew(t, sectors, 31)
		isNew(t, sectors, 512)
	}
	for size := -3; size < 600; size++ {
		isNew(t, 1, size)
		isNew(t, 0, size)
		isNew(t, 256, size)
	}
}

func TestANewDiskIsAllZero(t *testing.T) {
	for _, sectors := range []int{1, 2, 255, 256} {
		for _, size := range []int{32, 33, 511, 512} {
			d, m := both(t, sectors, size)
			alike(t, fmt.Sprintf("%d of %d", sectors, size), d, m)
			reads(t, "the last", d, sectors-1, strings.Repeat("\x00", size), true)
			safe(t, "the last", d, sectors-1, strings.Repeat("\x00", size), true)
		}
	}
}

func TestPendingCountsEachWrite(t *testing.T) {
	d := made(t, 3, 32)
	for k := range 1000 {
		if d.Pending() != k {
			t.Fatalf("%d pending, want %d", d.Pending(), k)
		}
		d.Read(k % 3)
		d.Safe(k % 3)
		d.Write(3, "no such sector")
		d.Write(k%3, strings.Repeat("x", 33))
		if !d.Write(k%3, "always the same") {
			t.Fatal("not written")
		}
	}
	d.Flush()
	if d.Pending() != 0 || d.Sectors() != 3 || d.Size() != 32 {
		t.Errorf("flushed: %d pending", d.Pending())
	}
	d.Write(0, "x")
	d.Crash(nil)
	if d.Pending() != 0 || d.Sectors() != 3 || d.Size() != 32 {
		t.Errorf("crashed: %d pending", d.Pending())
	}
}

// P8.2

func TestReadBehindOneWrite(t *testing.T) {
	for at := range 3 {
		d, m := both(t, 3, 32)
		puts(t, d, m, at, "ab")
		alike(t, "one write", d, m)
		for other := range 3 {
			if other == at {
				reads(t, "its sector", d, at, whole("ab", 32), true)
			} else {
				reads(t, "another one", d, other, whole("", 32), true)
			}
			safe(t, "not flushed", d, other, whole("", 32), true)
		}
	}
}

// The last write to a sector is the one that is read, however many to other sectors come behind it.
func TestReadBehindSeveralWrites(t *testing.T) {
	d, m := both(t, 4, 33)
	puts(t, d, m, 2, "flushed")
	d.Flush()
	m.flush()
	for _, text := range []string{"a", "b longer than the others", "c", "", "d"} {
		puts(t, d, m, 2, text)
		reads(t, "its sector", d, 2, whole(text, 33), true)
		puts(t, d, m, 0, text+"0")
		puts(t, d, m, 3, text+"3")
		reads(t, "behind others", d, 2, whole(text, 33), true)
		safe(t, "behind others", d, 2, whole("flushed", 33), true)
		alike(t, "several", d, m)
	}
	reads(t, "never written", d, 1, whole("", 33), true)
}

func TestReadOfASectorWithoutPendingWrites(t *testing.T) {
	d, m := both(t, 2, 32)
	puts(t, d, m, 0, "zero")
	puts(t, d, m, 1, "one")
	d.Flush()
	m.flush()
	puts(t, d, m, 1, "two")
	reads(t, "safe", d, 0, whole("zero", 32), true)
	alike(t, "safe", d, m)
}

func TestWriteOfEachLength(t *testing.T) {
	for _, size := range []int{32, 33, 511, 512} {
		d, m := both(t, 2, size)
		for n := range size + 3 {
			text := strings.Repeat("x", n)
			if ok := d.Write(1, text); ok != (n <= size) || ok != m.write(1, text) {
				t.Errorf("%d of %d bytes: %v", n, size, ok)
			}
			if d.Pending() != len(m.pending) {
				t.Fatalf("%d of %d bytes: %d pending, want %d", n, size, d.Pending(), len(m.pending))
			}
			reads(t, "each length", d, 1, whole(strings.Repeat("x", min(n, size)), size), true)
		}
		if d.Write(1, strings.Repeat("y", 1<<20)) || d.Write(1, strings.Repeat("\x00", size+1)) {
			t.Error("too long, and written")
		}
		alike(t, "all lengths", d, m)
	}
}

// What is refused is so whatever the disk holds, and leaves it as it was.
func TestWriteThatIsRefused(t *testing.T) {
	d, m := both(t, 3, 32)
	for round := range 3 {
		for _, at := range noSectors(d) {
			for _, text := range []string{"", "x", strings.Repeat("x", 32), strings.Repeat("x", 33)} {
				if d.Write(at, text) {
					t.Errorf("Write(%d, %q): written", at, text)
				}
			}
		}
		for at := range 3 {
			if d.Write(at, strings.Repeat("x", 33)) {
				t.Errorf("%d: too long, and written", at)
			}
		}
		alike(t, "refused", d, m)
		if round == 0 {
			puts(t, d, m, 1, "flushed")
			d.Flush()
			m.flush()
		}
		puts(t, d, m, 0, "pending")
		puts(t, d, m, 1, "pending")
	}
	d.Crash([]int{3, 4, 5, 6})
	m.crash([]int{3, 4, 5, 6})
	alike(t, "crashed", d, m)
}

// A shorter text is no part of a write: what is behind it becomes 0.
func TestZerosBehindAShorterText(t *testing.T) {
	for _, end := range []string{"flush", "crash", "torn"} {
		for _, text := range []string{"", "a", "\x00", strings.Repeat("y", 31), strings.Repeat("y", 32)} {
			d, m := both(t, 2, 32)
			puts(t, d, m, 1, strings.Repeat("x", 32))
			d.Flush()
			m.flush()
			puts(t, d, m, 1, text)
			reads(t, "pending", d, 1, whole(text, 32), true)
			safe(t, "pending", d, 1, strings.Repeat("x", 32), true)
			want := whole(text, 32)
			switch end {
			case "flush":
				d.Flush()
			case "crash":
				d.Crash([]int{32})
			case "torn":
				d.Crash([]int{20})
				want = want[:20] + strings.Repeat("x", 12)
			}
			reads(t, end, d, 1, want, true)
			safe(t, end, d, 1, want, true)
			reads(t, end, d, 0, whole("", 32), true)
		}
	}
}

func TestEachByteIsItself(t *testing.T) {
	d := made(t, 1, 256)
	b := make([]byte, 256)
	for i := range b {
		b[i] = byte(255 - i)
	}
	d.Write(0, string(b))
	reads(t, "pending", d, 0, string(b), true)
	d.Flush()
	safe(t, "flushed", d, 0, string(b), true)
}

// P8.3

func TestFlushTakesTheWritesInTheirOrder(t *testing.T) {
	d, m := both(t, 3, 32)
	for k, text := range []string{"first and long", "b", "", "third", "e", "second", "last"} {
		puts(t, d, m, k%2, text)
	}
	d.Flush()
	m.flush()
	for name, look := range map[string]func(*testing.T, string, *Disk, int, string, bool){"read": reads, "safe": safe} {
		look(t, name, d, 0, whole("last", 32), true)
		look(t, name, d, 1, whole("second", 32), true)
		look(t, name, d, 2, whole("", 32), true)
	}
	alike(t, "flushed", d, m)
	d.Flush()
	alike(t, "flushed again", d, m)
	d.Crash(nil)
	alike(t, "crashed behind it", d, m)
}

// kept are the elements that a keep may have for sectors of the size: edges, ordinary ones, and the extremes.
func kept(size int) []int {
	return []int{least, least + 1, -size, -1, 0, 1, 2, size / 2, size - 1, size, size + 1, 2 * size, most - 1, most}
}

// upTo is how many of a write's bytes an element keeps.
func upTo(c, size int) int {
	if c < 0 {
		return 0
	}
	if c > size {
		return size
	}
	return c
}

func TestCrashOfOneWriteByEachElement(t *testing.T) {
	for _, size := range []int{32, 33, 512} {
		for _, c := range kept(size) {
			name := fmt.Sprintf("%d of %d", c, size)
			d := made(t, 2, size)
			old, text := strings.Repeat("x", size), strings.Repeat("y", size)
			d.Write(1, old)
			d.Flush()
			d.Write(1, text)
			d.Crash([]int{c})
			n := upTo(c, size)
			safe(t, name, d, 1, text[:n]+old[n:], true)
			reads(t, name, d, 1, text[:n]+old[n:], true)
			safe(t, name, d, 0, whole("", size), true)
			if d.Pending() != 0 {
				t.Errorf("%s: %d pending", name, d.Pending())
			}
		}
	}
}

func TestCrashOfEachNumberOfBytes(t *testing.T) {
	for c := -2; c < 36; c++ {
		d := made(t, 1, 32)
		d.Write(0, "abcdefghijklmnopqrstuvwxyzABCDEF")
		d.Crash([]int{c})
		safe(t, fmt.Sprint(c), d, 0, whole("abcdefghijklmnopqrstuvwxyzABCDEF"[:upTo(c, 32)], 32), true)
	}
}

// Two writes to one sector each keep a part: the second one covers the first as far as it is kept, and no farther.
func TestCrashOfTwoWritesToOneSector(t *testing.T) {
	old, first, second := strings.Repeat("x", 32), strings.Repeat("y", 32), strings.Repeat("z", 32)
	for _, a := range kept(32) {
		for _, b := range kept(32) {
			d := made(t, 2, 32)
			d.Write(0, old)
			d.Write(1, old)
			d.Flush()
			d.Write(0, first)
			d.Write(0, second)
			d.Crash([]int{a, b})
			m, n := upTo(a, 32), upTo(b, 32)
			want := second[:n] + old[n:]
			if m > n {
				want = second[:n] + first[n:m] + old[m:]
			}
			name := fmt.Sprintf("%d and %d", a, b)
			safe(t, name, d, 0, want, true)
			reads(t, name, d, 0, want, true)
			safe(t, name, d, 1, old, true)
		}
	}
}

// Elements that there are not keep nothing, those that there are too many of tell nothing.
func TestCrashByKeepsOfEachLength(t *testing.T) {
	for n := range 8 {
		d, m := both(t, 4, 32)
		for at := range 4 {
			puts(t, d, m, at, strings.Repeat("x", 32))
		}
		d.Flush()
		m.flush()
		for _, at := range []int{3, 1, 2, 1} {
			puts(t, d, m, at, fmt.Sprintf("text of %d, and more", at))
		}
		keep := []int{5, 15, 7, 6, 9, 10, 11}[:n]
		d.Crash(keep)
		m.crash(keep)
		alike(t, fmt.Sprintf("%d elements", n), d, m)
	}
}

func TestCrashByNoKeep(t *testing.T) {
	for _, keep := range [][]int{nil, {}, {0}, {-1, least}, {0, 0, 0, 0}} {
		d, m := both(t, 2, 32)
		puts(t, d, m, 0, "safe")
		d.Flush()
		m.flush()
		puts(t, d, m, 0, "lost")
		puts(t, d, m, 1, "lost")
		puts(t, d, m, 0, "lost too")
		d.Crash(keep)
		m.crash(keep)
		alike(t, fmt.Sprint(keep), d, m)
		safe(t, fmt.Sprint(keep), d, 0, whole("safe", 32), true)
		safe(t, fmt.Sprint(keep), d, 1, whole("", 32), true)
	}
}

// The k-th element belongs to the k-th write of all, not to the k-th of its sector.
func TestCrashCountsWritesFromZeroOverAllSectors(t *testing.T) {
	d := made(t, 3, 32)
	d.Write(2, "aaaa")
	d.Write(0, "bbbb")
	d.Write(2, "cccc")
	d.Write(1, "dddd")
	d.Crash([]int{4, 3, 2, 1})
	safe(t, "2", d, 2, whole("ccaa", 32), true)
	safe(t, "0", d, 0, whole("bbb", 32), true)
	safe(t, "1", d, 1, whole("d", 32), true)
}

// Writes that were refused are not counted.
func TestCrashDoesNotCountWhatWasRefused(t *testing.T) {
	d := made(t, 2, 32)
	d.Write(2, "no sector")
	d.Write(0, "aaaa")
	d.Write(0, strings.Repeat("x", 33))
	d.Write(-1, "no sector")
	d.Write(1, "bbbb")
	d.Crash([]int{1, 2, 32, 32, 32})
	safe(t, "0", d, 0, whole("a", 32), true)
	safe(t, "1", d, 1, whole("bb", 32), true)
}

// Nothing of a crash is left for the next one: neither writes nor elements.
func TestCrashAfterCrash(t *testing.T) {
	d, m := both(t, 2, 32)
	puts(t, d, m, 0, "aaaa")
	puts(t, d, m, 1, "bbbb")
	d.Crash([]int{1, 2, 3, 4})
	m.crash([]int{1, 2, 3, 4})
	for _, keep := range [][]int{{32, 32}, nil} {
		d.Crash(keep)
		alike(t, "nothing pending", d, m)
	}
	puts(t, d, m, 0, "cccc")
	puts(t, d, m, 1, "dddd")
	puts(t, d, m, 0, "eeee")
	d.Crash([]int{0, 3})
	m.crash([]int{0, 3})
	alike(t, "again", d, m)
	safe(t, "0", d, 0, whole("a", 32), true)
	safe(t, "1", d, 1, whole("ddd", 32), true)
	puts(t, d, m, 0, "ff")
	d.Flush()
	m.flush()
	alike(t, "flushed", d, m)
}

func TestKeepIsTheCallers(t *testing.T) {
	for name, crash := range map[string]func(*Disk, []int){
		"Crash": func(d *Disk, keep []int) { d.Crash(keep) },
		"Do":    func(d *Disk, keep []int) { d.Do(api.Act{Do: 3, Keep: keep}) },
	} {
		d, m := both(t, 2, 32)
		puts(t, d, m, 0, "aaaa")
		puts(t, d, m, 1, "bbbb")
		puts(t, d, m, 0, "cccc")
		all := []int{-7, 99, 1, 50, -60, 7}
		keep := all[:4]
		crash(d, keep)
		if !slices.Equal(all, []int{-7, 99, 1, 50, -60, 7}) {
			t.Errorf("%s: keep was changed: %v", name, all)
		}
		m.crash([]int{-7, 99, 1})
		for i := range all {
			all[i] = 32
		}
		alike(t, name+": keep changed afterwards", d, m)
		puts(t, d, m, 0, "dddd")
		puts(t, d, m, 1, "eeee")
		alike(t, name+": writes behind it", d, m)
		d.Crash(nil)
		m.crash(nil)
		alike(t, name+": the next crash", d, m)
	}
}

// P8.4

// directly executes an act by the disk's methods themselves, as the document pairs them with numbers.
func directly(d *Disk, a api.Act) (string, bool) {
	switch a.Do {
	case 0:
		return d.Read(a.At)
	case 1:
		return "", d.Write(a.At, a.Text)
	case 2:
		d.Flush()
		return "", true
	case 3:
		d.Crash(a.Keep)
		return "", true
	}
	return "", false
}

// does asks Do for its two results.
func does(t *testing.T, name string, d *Disk, a api.Act, want string, ok bool) {
	t.Helper()
	if s, got := d.Do(a); s != want || got != ok {
		t.Errorf("%s: %q, %v; want %q, %v", name, s, got, want, ok)
	}
}

func TestDoOfEachAct(t *testing.T) {
	d := made(t, 2, 32)
	does(t, "read of a new disk", d, api.Act{Do: 0, At: 1}, whole("", 32), true)
	does(t, "read of no sector", d, api.Act{Do: 0, At: 2}, "", false)
	does(t, "read of -1", d, api.Act{Do: 0, At: -1}, "", false)
	does(t, "write", d, api.Act{Do: 1, At: 1, Text: "ab"}, "", true)
	does(t, "write of nothing", d, api.Act{Do: 1, At: 0}, "", true)
	does(t, "write to no sector", d, api.Act{Do: 1, At: 2, Text: "ab"}, "", false)
	does(t, "write to -1", d, api.Act{Do: 1, At: -1, Text: "ab"}, "", false)
	does(t, "write of one byte more", d, api.Act{Do: 1, At: 1, Text: strings.Repeat("x", 33)}, "", false)
	if d.Pending() != 2 {
		t.Errorf("written: %d pending", d.Pending())
	}
	does(t, "read of what is pending", d, api.Act{Do: 0, At: 1}, whole("ab", 32), true)
	safe(t, "written", d, 1, whole("", 32), true)
	does(t, "flush", d, api.Act{Do: 2}, "", true)
	safe(t, "flushed", d, 1, whole("ab", 32), true)
	does(t, "write of its size", d, api.Act{Do: 1, At: 1, Text: strings.Repeat("c", 32)}, "", true)
	does(t, "crash", d, api.Act{Do: 3, Keep: []int{1}}, "", true)
	safe(t, "crashed", d, 1, whole("cb", 32), true)
	does(t, "write to be lost", d, api.Act{Do: 1, At: 0, Text: "d"}, "", true)
	does(t, "crash without keep", d, api.Act{Do: 3}, "", true)
	safe(t, "crashed", d, 0, whole("", 32), true)
	does(t, "flush of nothing", d, api.Act{Do: 2}, "", true)
	does(t, "crash of nothing", d, api.Act{Do: 3, Keep: []int{1, 2}}, "", true)
	if d.Pending() != 0 {
		t.Errorf("crashed: %d pending", d.Pending())
	}
}

// The fields that an act has no use for tell it nothing.
func TestDoTakesNoOtherField(t *testing.T) {
	d := made(t, 2, 32)
	d.Write(0, "ab")
	does(t, "read", d, api.Act{Do: 0, At: 0, Text: strings.Repeat("x", 99), Keep: []int{0}}, whole("ab", 32), true)
	does(t, "write", d, api.Act{Do: 1, At: 1, Text: "cd", Keep: []int{0}}, "", true)
	if d.Pending() != 2 {
		t.Errorf("%d pending", d.Pending())
	}
	does(t, "flush", d, api.Act{Do: 2, At: -1, Text: strings.Repeat("x", 99), Keep: []int{0, 0}}, "", true)
	safe(t, "flushed", d, 0, whole("ab", 32), true)
	safe(t, "flushed", d, 1, whole("cd", 32), true)
	d.Write(1, "xyz")
	does(t, "crash", d, api.Act{Do: 3, At: -1, Text: strings.Repeat("x", 99), Keep: []int{1}}, "", true)
	safe(t, "crashed", d, 1, whole("xd", 32), true)
}

func TestDoOfAnyOtherNumber(t *testing.T) {
	if api.ActRead != 0 || api.ActWrite != 1 || api.ActFlush != 2 || api.ActCrash != 3 || api.Acts != 4 {
		t.Error("other numbers than the document's")
	}
	d, m := both(t, 3, 32)
	puts(t, d, m, 0, "flushed")
	d.Flush()
	m.flush()
	puts(t, d, m, 0, "pending")
	puts(t, d, m, 1, "pending")
	for _, do := range []int{-1, 4, 5, -2, -3, -4, 7, 255, 256, 257, 1 << 32, 1<<32 + 1, least, least + 1, most, most - 1} {
		for at := -1; at < 4; at++ {
			does(t, fmt.Sprint(do), d, api.Act{Do: do, At: at, Text: "x", Keep: []int{1, 2}}, "", false)
		}
		alike(t, fmt.Sprint(do), d, m)
	}
}

// P8.5

// written is a disk whose first sectors were flushed and written to again, at random; the last one was flushed alone.
func written(t *testing.T, r *rand.Rand) (*Disk, *model) {
	t.Helper()
	size := 32 + r.Intn(8)
	d, m := both(t, 4, size)
	for at := range 4 {
		puts(t, d, m, at, randomText(r, size))
	}
	d.Flush()
	m.flush()
	for range r.Intn(10) {
		puts(t, d, m, r.Intn(3), randomText(r, size))
	}
	return d, m
}

func randomText(r *rand.Rand, size int) string {
	b := make([]byte, r.Intn(size+1))
	for i := range b {
		b[i] = byte(r.Intn(256))
	}
	return string(b)
}

func randomKeep(r *rand.Rand, size, many int) []int {
	keep := make([]int, r.Intn(many+1))
	for i := range keep {
		if keep[i] = r.Intn(size+4) - 2; r.Intn(4) == 0 {
			keep[i] = kept(size)[r.Intn(len(kept(size)))]
		}
	}
	return keep
}

// contents are what Safe tells of all sectors.
func contents(d *Disk) []string {
	var l []string
	for at := range d.Sectors() {
		s, _ := d.Safe(at)
		l = append(l, s)
	}
	return l
}

func TestASectorWithoutPendingWritesSurvivesACrash(t *testing.T) {
	r := rand.New(rand.NewSource(81))
	for range 2000 {
		d, m := written(t, r)
		before := contents(d)
		d.Crash(randomKeep(r, m.size, 12))
		after := contents(d)
		for at := range 4 {
			touched := slices.ContainsFunc(m.pending, func(w modelWrite) bool { return w.at == at })
			if !touched && after[at] != before[at] {
				t.Errorf("%d was %q, is %q", at, before[at], after[at])
			}
		}
	}
}

func TestEachByteAfterACrashWasThereOrPending(t *testing.T) {
	r := rand.New(rand.NewSource(82))
	for range 2000 {
		d, m := written(t, r)
		d.Crash(randomKeep(r, m.size, 12))
		for at, s := range contents(d) {
			for i := range len(s) {
				from := []byte{m.safe[at][i]}
				for _, w := range m.pending {
					if w.at == at {
						from = append(from, w.bytes[i])
					}
				}
				if !slices.Contains(from, s[i]) {
					t.Errorf("byte %d of %d is %d, of none of %v", i, at, s[i], from)
				}
			}
		}
	}
}

func TestACrashThatKeepsEverythingIsAFlush(t *testing.T) {
	r := rand.New(rand.NewSource(83))
	for range 500 {
		d, m := written(t, r)
		keep := make([]int, d.Pending()+r.Intn(3))
		for i := range keep {
			keep[i] = []int{m.size, m.size + 1, most}[r.Intn(3)]
		}
		d.Crash(keep)
		m.flush()
		alike(t, "everything kept", d, m)
	}
}

func TestACrashThatKeepsNothingRestores(t *testing.T) {
	r := rand.New(rand.NewSource(84))
	for range 500 {
		d, m := written(t, r)
		keep := make([]int, r.Intn(d.Pending()+3))
		for i := range keep {
			keep[i] = []int{0, -1, least}[r.Intn(3)]
		}
		d.Crash(keep)
		m.pending = nil
		alike(t, "nothing kept", d, m)
	}
}

// Random acts, by Do and by hand: whatever came before, a disk is as its model, and tells what the model does.
func TestRandomActs(t *testing.T) {
	r := rand.New(rand.NewSource(85))
	for range 400 {
		sectors, size := 1+r.Intn(5), 32+r.Intn(4)
		d, m := both(t, sectors, size)
		for range 60 {
			a := api.Act{Do: r.Intn(6) - 1, At: r.Intn(sectors+2) - 1, Text: randomText(r, size+2), Keep: randomKeep(r, size, 6)}
			if r.Intn(2) == 0 {
				a.Do = api.ActWrite
			}
			do := (*Disk).Do
			if r.Intn(2) == 0 {
				do = directly
			}
			s, ok := do(d, a)
			if want, wantOk := m.do(a); s != want || ok != wantOk {
				t.Fatalf("act %d at %d of %q, %v: %q, %v; want %q, %v", a.Do, a.At, a.Text, a.Keep, s, ok, want, wantOk)
			}
			alike(t, "random", d, m)
		}
	}
}

// The example of the document.
func TestExample(t *testing.T) {
	d := made(t, 1, 32)
	if !d.Write(0, "ab") {
		t.Error("not written")
	}
	d.Crash([]int{1})
	reads(t, "torn", d, 0, "a"+strings.Repeat("\x00", 31), true)
	safe(t, "torn", d, 0, "a"+strings.Repeat("\x00", 31), true)
}

// Nothing is kept from one disk to the next.
func TestDisksAreApart(t *testing.T) {
	a, m := both(t, 2, 32)
	b, n := both(t, 2, 32)
	puts(t, a, m, 0, "a")
	puts(t, b, n, 0, "b")
	puts(t, b, n, 1, "b")
	a.Flush()
	m.flush()
	alike(t, "one flushed", a, m)
	alike(t, "the other not", b, n)
	b.Crash([]int{0, 1})
	n.crash([]int{0, 1})
	alike(t, "one", a, m)
	alike(t, "the other crashed", b, n)
	c, k := both(t, 2, 32)
	alike(t, "a third", c, k)
}
