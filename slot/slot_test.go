package slot

import (
	"bytes"
	"countersign/disk"
	"encoding/binary"
	"fmt"
	"math"
	"math/rand"
	"slices"
	"strings"
	"testing"
)

const (
	least    = math.MinInt
	most     = math.MaxInt
	greatest = uint64(math.MaxUint64)
)

// frameByHand sets the bytes of a framed sector one part after the other, with any length and number that it is told.
func frameByHand(number uint64, length int, text string, size int) string {
	b := make([]byte, size)
	binary.BigEndian.PutUint64(b, number)
	binary.BigEndian.PutUint16(b[8:], uint16(length))
	copy(b[10:size-8], text)
	binary.BigEndian.PutUint64(b[size-8:], number)
	return string(b)
}

// framedBy is frameByHand with the length that the text has.
func framedBy(number uint64, text string, size int) string {
	return frameByHand(number, len(text), text, size)
}

func unframeByHand(s string) (uint64, string, bool) {
	if len(s) < 32 || len(s) > 512 {
		return 0, "", false
	}
	b := []byte(s)
	first, last := b[:8], b[len(b)-8:]
	n := int(b[8])*256 + int(b[9])
	if !bytes.Equal(first, last) || bytes.Equal(first, make([]byte, 8)) || n+18 > len(b) {
		return 0, "", false
	}
	return binary.BigEndian.Uint64(first), string(b[10:][:n]), true
}

// loadByHand also tells which sector the text comes from: -1 if from none.
func loadByHand(d *disk.Disk, a, b int) (uint64, string, int) {
	number, text, from := uint64(0), "", -1
	for _, at := range []int{a, b} {
		s, there := d.Read(at)
		n, x, ok := unframeByHand(s)
		if there && ok && n > number {
			number, text, from = n, x, at
		}
	}
	return number, text, from
}

// frames asks Frame for the framed sector that is set by hand.
func frames(t *testing.T, number uint64, text string, size int) {
	t.Helper()
	s, ok := Frame(number, text, size)
	if want := framedBy(number, text, size); s != want || !ok {
		t.Errorf("%d, %d bytes of %d: %q, %v; want %q", number, len(text), size, s, ok, want)
	}
}

func noFrame(t *testing.T, number uint64, text string, size int) {
	t.Helper()
	if s, ok := Frame(number, text, size); s != "" || ok {
		t.Errorf("%d, %d bytes of %d: %q, %v; want no frame, false", number, len(text), size, s, ok)
	}
}

func unframes(t *testing.T, name, sector string, number uint64, text string) {
	t.Helper()
	if n, s, ok := Unframe(sector); n != number || s != text || !ok {
		t.Errorf("%s: %d, %q, %v; want %d, %q, true", name, n, s, ok, number, text)
	}
}

func notFramed(t *testing.T, name, sector string) {
	t.Helper()
	if n, s, ok := Unframe(sector); n != 0 || s != "" || ok {
		t.Errorf("%s: %d, %q, %v; want 0, nothing, false", name, n, s, ok)
	}
}

func loads(t *testing.T, name string, d *disk.Disk, a, b int, number uint64, text string) {
	t.Helper()
	if n, s := Load(d, a, b); n != number || s != text {
		t.Errorf("%s: Load(%d, %d): %d, %q; want %d, %q", name, a, b, n, s, number, text)
	}
}

// made is a new disk, which there is.
func made(t *testing.T, sectors, size int) *disk.Disk {
	t.Helper()
	d, ok := disk.New(sectors, size)
	if !ok {
		t.Fatalf("no disk of %d sectors of %d bytes", sectors, size)
	}
	return d
}

// puts writes a sector as it is told, past the slot.
func puts(t *testing.T, d *disk.Disk, at int, sector string) {
	t.Helper()
	if !d.Write(at, sector) {
		t.Fatalf("not written to %d: %q", at, sector)
	}
}

// lays writes and flushes sectors as they are told, from sector 0 on, past the slot.
func lays(t *testing.T, d *disk.Disk, sectors ...string) {
	t.Helper()
	for at, s := range sectors {
		puts(t, d, at, s)
	}
	d.Flush()
}

// state is all that a disk tells of itself.
type state struct {
	pending    int
	read, safe []string
}

func stateOf(d *disk.Disk) state {
	s := state{pending: d.Pending()}
	for at := range d.Sectors() {
		r, _ := d.Read(at)
		s.read = append(s.read, r)
		r, _ = d.Safe(at)
		s.safe = append(s.safe, r)
	}
	return s
}

func same(t *testing.T, name string, got, want state) {
	t.Helper()
	if got.pending != want.pending || !slices.Equal(got.read, want.read) || !slices.Equal(got.safe, want.safe) {
		t.Errorf("%s:\n%+v, want\n%+v", name, got, want)
	}
}

// begins asks Begin to write a frame to a sector, and to do nothing else.
func begins(t *testing.T, name string, d *disk.Disk, a, b int, text string, to int, number uint64) {
	t.Helper()
	want := stateOf(d)
	want.pending++
	want.read[to] = framedBy(number, text, d.Size())
	if !Begin(d, a, b, text) {
		t.Errorf("%s: not begun", name)
	}
	same(t, name, stateOf(d), want)
	loads(t, name, d, a, b, number, text)
}

// saves asks Save to write a frame to a sector, to flush all, and to do nothing else.
func saves(t *testing.T, name string, d *disk.Disk, a, b int, text string, to int, number uint64) {
	t.Helper()
	want := stateOf(d)
	want.pending = 0
	want.read[to] = framedBy(number, text, d.Size())
	want.safe = want.read
	if !Save(d, a, b, text) {
		t.Errorf("%s: not saved", name)
	}
	same(t, name, stateOf(d), want)
	loads(t, name, d, a, b, number, text)
}

// refuses asks Begin and Save for false, and that nothing happens.
func refuses(t *testing.T, name string, d *disk.Disk, a, b int, text string) {
	t.Helper()
	before := stateOf(d)
	n, s := Load(d, a, b)
	if Begin(d, a, b, text) {
		t.Errorf("%s: Begin(%d, %d) of %d bytes began", name, a, b, len(text))
	}
	same(t, name+": Begin", stateOf(d), before)
	loads(t, name+": Begin", d, a, b, n, s)
	if Save(d, a, b, text) {
		t.Errorf("%s: Save(%d, %d) of %d bytes saved", name, a, b, len(text))
	}
	same(t, name+": Save", stateOf(d), before)
	loads(t, name+": Save", d, a, b, n, s)
}

// noSectors are numbers near a disk's sectors and far from them, without one of its own.
func noSectors(d *disk.Disk) []int {
	n := d.Sectors()
	return []int{-1, -2, -n, n, n + 1, 256, 257, least, least + 1, most, most - 1}
}

// numbers are ordinary ones, and those at the edges of their bytes.
func numbers() []uint64 {
	l := []uint64{1, 2, 3, 0x0102030405060708, 0x8000000000000000, greatest - 1, greatest}
	for bits := 8; bits < 64; bits += 8 {
		l = append(l, 1<<bits-1, 1<<bits, 1<<bits+1)
	}
	return l
}

// sizes are all that stand at an edge, and some between.
func sizes() []int {
	return []int{32, 33, 34, 40, 255, 256, 273, 274, 275, 511, 512}
}

// texts are texts that fit into a frame of the size, the longest one among them.
func texts(size int) []string {
	l := []string{"", "a", "hi", "\x00", "\x00\x00\x00", "a\x00", "\x00a", "\xff\xfe", strings.Repeat("\x00", size-18), strings.Repeat("\xff", size-18)}
	for _, n := range []int{size - 18, size - 19, size - 20, (size - 18) / 2} {
		b := make([]byte, n)
		for i := range b {
			b[i] = byte(i*7 + 1)
		}
		l = append(l, string(b))
	}
	return l
}

func randomText(r *rand.Rand, most int) string {
	b := make([]byte, r.Intn(most+1))
	for i := range b {
		b[i] = byte(r.Intn(4) * 85)
	}
	return string(b)
}

// P9.1: Frame

func TestFrameOfTheExample(t *testing.T) {
	want := "\x00\x00\x00\x00\x00\x00\x00\x01" + "\x00\x02" + "hi" + strings.Repeat("\x00", 12) + "\x00\x00\x00\x00\x00\x00\x00\x01"
	if s, ok := Frame(1, "hi", 32); s != want || !ok {
		t.Errorf("%q, %v", s, ok)
	}
	unframes(t, "the example", want, 1, "hi")
}

func TestWhichByteStandsWhere(t *testing.T) {
	text := strings.Repeat("x", 258)
	number := "\x01\x02\x03\x04\x05\x06\x07\x08"
	s, ok := Frame(0x0102030405060708, text, 300)
	if want := number + "\x01\x02" + text + strings.Repeat("\x00", 24) + number; s != want || !ok {
		t.Errorf("%q, %v; want %q", s, ok, want)
	}
	number = "\xf8\x07\x06\x05\x04\x03\x02\x81"
	s, ok = Frame(0xf807060504030281, "", 32)
	if want := number + strings.Repeat("\x00", 16) + number; s != want || !ok {
		t.Errorf("%q, %v; want %q", s, ok, want)
	}
	s, ok = Frame(greatest, strings.Repeat("y", 494), 512)
	if want := strings.Repeat("\xff", 8) + "\x01\xee" + strings.Repeat("y", 494) + strings.Repeat("\xff", 8); s != want || !ok {
		t.Errorf("%q, %v; want %q", s, ok, want)
	}
}

func TestFrameAtTheEdgesOfSize(t *testing.T) {
	for _, size := range []int{32, 33, 511, 512} {
		frames(t, 1, "", size)
		frames(t, 1, "hi", size)
		frames(t, greatest, strings.Repeat("x", size-18), size)
	}
	for _, size := range []int{31, 30, 18, 17, 10, 8, 1, 0, -1, -18, -32, -512, 513, 514, 1024, 65536, most, most - 1, least, least + 1, least + 17, least + 18} {
		noFrame(t, 1, "", size)
		noFrame(t, 1, "hi", size)
		noFrame(t, greatest, strings.Repeat("x", 494), size)
		noFrame(t, 0, "", size)
	}
}

func TestFrameOfEachNumber(t *testing.T) {
	for _, size := range sizes() {
		for _, n := range numbers() {
			frames(t, n, "text", size)
			frames(t, n, "", size)
		}
		noFrame(t, 0, "", size)
		noFrame(t, 0, "text", size)
		noFrame(t, 0, strings.Repeat("x", size), size)
	}
}

func TestFrameOfEachLength(t *testing.T) {
	for size := 32; size <= 512; size++ {
		for n := range size - 17 {
			frames(t, 7, strings.Repeat("x", n), size)
		}
		for _, n := range []int{size - 17, size - 16, size - 10, size - 8, size, size + 1, 65536, 65538} {
			noFrame(t, 7, strings.Repeat("x", n), size)
			noFrame(t, 7, strings.Repeat("\x00", n), size)
		}
	}
}

// P9.1: Unframe

func TestUnframeAtTheEdgesOfSize(t *testing.T) {
	for _, size := range []int{32, 33, 511, 512} {
		unframes(t, fmt.Sprint(size), framedBy(1, "", size), 1, "")
		unframes(t, fmt.Sprint(size), framedBy(300, "hi", size), 300, "hi")
	}
	for _, size := range []int{18, 19, 20, 30, 31, 513, 514, 1024, 65536} {
		notFramed(t, fmt.Sprint(size), framedBy(1, "", size))
		notFramed(t, fmt.Sprint(size), framedBy(300, strings.Repeat("x", min(size-18, 2)), size))
	}
	for size := range 32 {
		notFramed(t, "all 1", strings.Repeat("\x01", size))
		notFramed(t, "all 0", strings.Repeat("\x00", size))
	}
	notFramed(t, "empty", "")
}

func TestUnframeOfWhatIsAll0(t *testing.T) {
	for size := 0; size <= 600; size++ {
		notFramed(t, fmt.Sprint(size), strings.Repeat("\x00", size))
	}
	for _, size := range sizes() {
		notFramed(t, "0 at both ends", frameByHand(0, 2, "hi", size))
	}
}

// A number counts as soon as one byte of it is not 0.
func TestUnframeOfEachByteOfTheNumber(t *testing.T) {
	for _, size := range sizes() {
		for bits := 0; bits < 64; bits += 8 {
			unframes(t, fmt.Sprint(size, bits), framedBy(1<<bits, "hi", size), 1<<bits, "hi")
			unframes(t, fmt.Sprint(size, bits), framedBy(0x80<<bits, "hi", size), 0x80<<bits, "hi")
		}
	}
}

func TestUnframeOfUnlikeNumbers(t *testing.T) {
	for _, size := range sizes() {
		for _, n := range []uint64{1, 0x0101010101010101, greatest} {
			for at := range 8 {
				for _, place := range []int{at, size - 8 + at} {
					for _, by := range []byte{1, 0x80, 0xff} {
						b := []byte(framedBy(n, "hi", size))
						b[place] ^= by
						notFramed(t, fmt.Sprint(size, n, place, by), string(b))
					}
				}
			}
		}
		first := framedBy(1, "hi", size)
		notFramed(t, "0 ahead", strings.Repeat("\x00", 8)+first[8:])
		notFramed(t, "0 behind", first[:size-8]+strings.Repeat("\x00", 8))
		backwards := framedBy(0x0102030405060708, "", size)[:size-8] + "\x08\x07\x06\x05\x04\x03\x02\x01"
		notFramed(t, "backwards", backwards)
	}
}

func TestUnframeOfEachLength(t *testing.T) {
	for _, size := range sizes() {
		inside := strings.Repeat("x", size-18)
		for n := range size - 17 {
			unframes(t, fmt.Sprint(size, n), frameByHand(9, n, inside, size), 9, inside[:n])
		}
		for _, n := range []int{size - 17, size - 16, size - 10, size - 8, size, size + 1, 512, 1024, 0x7fff, 0x8000, 0xff00, 0xffff} {
			notFramed(t, fmt.Sprint(size, n), frameByHand(9, n, inside, size))
		}
	}
}

// The bytes behind the text are no part of what makes a framed sector.
func TestUnframeTakesAnyBytesBehindTheText(t *testing.T) {
	for _, size := range sizes() {
		unframes(t, "at once", frameByHand(5, 2, "hi!", size), 5, "hi")
		unframes(t, "none", frameByHand(5, 0, "hi!", size), 5, "")
		unframes(t, "all", frameByHand(5, 2, "hi"+strings.Repeat("\xff", size-20), size), 5, "hi")
		unframes(t, "the last", frameByHand(5, 2, "hi"+strings.Repeat("\x00", size-21)+"\x01", size), 5, "hi")
	}
}

func TestUnframeOfRandomBytes(t *testing.T) {
	r := rand.New(rand.NewSource(91))
	held := 0
	for range 20000 {
		size := 30 + r.Intn(12)
		b := make([]byte, size)
		for i := range b {
			b[i] = byte(r.Intn(3))
		}
		if r.Intn(4) > 0 {
			copy(b[size-8:], b[:8])
		}
		if r.Intn(4) > 0 {
			b[8] = 0
			b[9] = byte(r.Intn(size))
		}
		n, s, ok := Unframe(string(b))
		m, x, want := unframeByHand(string(b))
		if n != m || s != x || ok != want {
			t.Errorf("%q: %d, %q, %v; want %d, %q, %v", b, n, s, ok, m, x, want)
		}
		if ok {
			held++
		}
	}
	if held < 2000 {
		t.Errorf("framed: only %d", held)
	}
}

// P9.2

func TestLoadOfAnEmptySlot(t *testing.T) {
	d := made(t, 3, 32)
	loads(t, "new", d, 0, 1, 0, "")
	loads(t, "new", d, 1, 0, 0, "")
	loads(t, "new, twice the same", d, 2, 2, 0, "")
	lays(t, d, strings.Repeat("\x01", 32), frameByHand(0, 2, "hi", 32), frameByHand(1, 15, "hi", 32))
	for a := range 3 {
		for b := range 3 {
			loads(t, "none framed", d, a, b, 0, "")
		}
	}
}

func TestLoadOfOneOfTwo(t *testing.T) {
	for _, n := range numbers() {
		for _, other := range []string{"", strings.Repeat("\xff", 31), frameByHand(greatest, 15, "torn", 32), frameByHand(0, 4, "zero", 32)} {
			d := made(t, 2, 32)
			lays(t, d, framedBy(n, "text", 32), other)
			loads(t, "on a alone", d, 0, 1, n, "text")
			loads(t, "on b alone", d, 1, 0, n, "text")
			loads(t, "a and b equal", d, 0, 0, n, "text")
		}
	}
}

func TestLoadOfTheGreaterNumber(t *testing.T) {
	for _, n := range numbers() {
		for _, m := range numbers() {
			d := made(t, 2, 32)
			lays(t, d, framedBy(n, "first", 32), framedBy(m, "second", 32))
			if n >= m {
				loads(t, "a", d, 0, 1, n, "first")
			} else {
				loads(t, "b", d, 0, 1, m, "second")
			}
			if m >= n {
				loads(t, "a, changed round", d, 1, 0, m, "second")
			} else {
				loads(t, "b, changed round", d, 1, 0, n, "first")
			}
		}
	}
}

func TestLoadWithoutAText(t *testing.T) {
	d := made(t, 2, 32)
	lays(t, d, framedBy(4, "", 32), framedBy(3, "old", 32))
	loads(t, "an empty text is one", d, 0, 1, 4, "")
	loads(t, "an empty text is one", d, 1, 0, 4, "")
}

func TestLoadWhereThereIsNoSector(t *testing.T) {
	d := made(t, 2, 32)
	lays(t, d, framedBy(3, "a", 32), framedBy(4, "b", 32))
	for _, n := range noSectors(d) {
		loads(t, "no b", d, 0, n, 3, "a")
		loads(t, "no a", d, n, 1, 4, "b")
		for _, m := range noSectors(d) {
			loads(t, "neither", d, n, m, 0, "")
		}
	}
}

func TestLoadOfWhatIsPending(t *testing.T) {
	d := made(t, 2, 32)
	lays(t, d, framedBy(3, "flushed", 32))
	puts(t, d, 1, framedBy(4, "pending", 32))
	loads(t, "on b", d, 0, 1, 4, "pending")
	puts(t, d, 0, framedBy(5, "pending too", 32))
	loads(t, "on a", d, 0, 1, 5, "pending too")
	puts(t, d, 0, "")
	loads(t, "written over", d, 0, 1, 4, "pending")
	d.Crash([]int{0, 0, 0})
	loads(t, "crashed", d, 0, 1, 3, "flushed")
}

func TestLoadChangesNothing(t *testing.T) {
	d := made(t, 3, 40)
	lays(t, d, framedBy(3, "flushed", 40), framedBy(3, "as much", 40), "else")
	puts(t, d, 0, framedBy(4, "pending", 40))
	before := stateOf(d)
	for a := -1; a < 4; a++ {
		for b := -1; b < 4; b++ {
			Load(d, a, b)
			same(t, "loaded", stateOf(d), before)
		}
	}
}

// P9.3

func TestSavesInARow(t *testing.T) {
	for _, size := range []int{32, 33, 512} {
		d := made(t, 4, size)
		lays(t, d, "these", "others", "stay", "as they are")
		puts(t, d, 1, "")
		puts(t, d, 3, "")
		d.Flush()
		for n := uint64(1); n < 600; n++ {
			// The first save of an empty slot goes to a, and so does each odd one.
			to := []int{1, 3}[n%2]
			saves(t, fmt.Sprint("save ", n), d, 3, 1, fmt.Sprint("text ", n), to, n)
		}
	}
}

func TestBeginsInARow(t *testing.T) {
	d := made(t, 3, 32)
	for n := uint64(1); n < 300; n++ {
		begins(t, fmt.Sprint("begin ", n), d, 0, 2, fmt.Sprint("text ", n), []int{2, 0}[n%2], n)
	}
	if d.Pending() != 299 {
		t.Errorf("%d pending", d.Pending())
	}
	saves(t, "save", d, 0, 2, "the last", 2, 300)
	d.Crash(nil)
	loads(t, "crashed", d, 0, 2, 300, "the last")
}

func TestBeginFlushesNothing(t *testing.T) {
	d := made(t, 3, 32)
	saves(t, "save", d, 0, 1, "saved", 0, 1)
	puts(t, d, 2, "other")
	begins(t, "begin", d, 0, 1, "begun", 1, 2)
	if d.Pending() != 2 {
		t.Errorf("%d pending", d.Pending())
	}
	d.Crash(nil)
	loads(t, "crashed", d, 0, 1, 1, "saved")
	if s, _ := d.Read(2); s != strings.Repeat("\x00", 32) {
		t.Errorf("the other sector: %q", s)
	}
}

func TestSaveFlushesAll(t *testing.T) {
	d := made(t, 3, 32)
	puts(t, d, 2, "other")
	begins(t, "begin", d, 0, 1, "begun", 0, 1)
	saves(t, "save", d, 0, 1, "saved", 1, 2)
	d.Crash(nil)
	loads(t, "crashed", d, 0, 1, 2, "saved")
	if s, _ := d.Read(2); s[:6] != "other\x00" {
		t.Errorf("the other sector: %q", s)
	}
}

// The sector that does not count is written, whatever it holds; a counts where the numbers are equal.
func TestWhichSectorIsWritten(t *testing.T) {
	junk := []string{"", strings.Repeat("\xff", 32), frameByHand(0, 2, "hi", 32), frameByHand(greatest, 15, "hi", 32), framedBy(greatest, "hi", 32)[:31]}
	for _, n := range numbers() {
		if n == greatest {
			continue
		}
		for _, j := range junk {
			d := made(t, 3, 32)
			lays(t, d, framedBy(n, "old", 32), j, "else")
			begins(t, "a counts", d, 0, 1, "new", 1, n+1)
			d = made(t, 3, 32)
			lays(t, d, framedBy(n, "old", 32), j, "else")
			saves(t, "b counts", d, 1, 0, "new", 1, n+1)
		}
		d := made(t, 2, 32)
		lays(t, d, framedBy(n, "old", 32), framedBy(n, "as much", 32))
		saves(t, "a counts of equals", d, 0, 1, "new", 1, n+1)
		d = made(t, 2, 32)
		lays(t, d, framedBy(n, "old", 32), framedBy(n, "as much", 32))
		begins(t, "a counts of equals, changed round", d, 1, 0, "new", 0, n+1)
		for _, m := range numbers() {
			if m < n {
				d = made(t, 2, 32)
				lays(t, d, framedBy(n, "old", 32), framedBy(m, "less", 32))
				saves(t, "b is less", d, 0, 1, "new", 1, n+1)
				d = made(t, 2, 32)
				lays(t, d, framedBy(n, "old", 32), framedBy(m, "less", 32))
				saves(t, "a is less", d, 1, 0, "new", 1, n+1)
			}
		}
	}
	for _, j := range junk {
		for _, k := range junk {
			d := made(t, 2, 32)
			lays(t, d, j, k)
			saves(t, "neither counts", d, 0, 1, "new", 0, 1)
			saves(t, "then a does", d, 0, 1, "newer", 1, 2)
		}
	}
}

func TestSavesOfEachLength(t *testing.T) {
	for _, size := range sizes() {
		d := made(t, 2, size)
		for n, text := range texts(size) {
			saves(t, fmt.Sprint(size), d, 0, 1, text, n%2, uint64(n)+1)
		}
		for _, n := range []int{size - 17, size - 16, size - 8, size, size + 1, 65536} {
			refuses(t, fmt.Sprint(size), d, 0, 1, strings.Repeat("x", n))
			refuses(t, fmt.Sprint(size), d, 1, 0, strings.Repeat("\x00", n))
		}
	}
}

// The disks on which a refusal must leave all as it is: new, saved to, and with pending writes of the slot and of others.
func disksToRefuse(t *testing.T) map[string]*disk.Disk {
	d, e, f := made(t, 4, 32), made(t, 4, 32), made(t, 4, 32)
	saves(t, "e", e, 0, 1, "saved", 0, 1)
	saves(t, "e", e, 0, 1, "again", 1, 2)
	saves(t, "f", f, 0, 1, "saved", 0, 1)
	puts(t, f, 3, "other")
	begins(t, "f", f, 0, 1, "begun", 1, 2)
	return map[string]*disk.Disk{"new": d, "saved": e, "pending": f}
}

func TestRefusedWhereAAndBAreEqual(t *testing.T) {
	for name, d := range disksToRefuse(t) {
		for at := -2; at < 6; at++ {
			refuses(t, name, d, at, at, "text")
		}
		for _, at := range noSectors(d) {
			refuses(t, name, d, at, at, "text")
		}
	}
}

func TestRefusedWhereThereIsNoSector(t *testing.T) {
	for name, d := range disksToRefuse(t) {
		for _, n := range noSectors(d) {
			for at := range 4 {
				refuses(t, name, d, at, n, "text")
				refuses(t, name, d, n, at, "text")
			}
			for _, m := range noSectors(d) {
				refuses(t, name, d, n, m, "text")
			}
		}
	}
	d := made(t, 1, 32)
	refuses(t, "one sector", d, 0, 1, "text")
	refuses(t, "one sector", d, 1, 0, "text")
	refuses(t, "one sector", d, 0, 0, "text")
	d = made(t, 256, 32)
	saves(t, "the last sector", d, 255, 254, "text", 255, 1)
	refuses(t, "one more", d, 255, 256, "text")
}

func TestRefusedWhereTheTextIsTooLong(t *testing.T) {
	for name, d := range disksToRefuse(t) {
		for _, n := range []int{15, 16, 24, 32, 33, 494, 65535, 65536, 65550} {
			refuses(t, name, d, 0, 1, strings.Repeat("x", n))
			refuses(t, name, d, 3, 2, strings.Repeat("\x00", n))
		}
		if !Save(d, 0, 1, strings.Repeat("x", 14)) {
			t.Errorf("%s: as long as can be: not saved", name)
		}
	}
}

func TestRefusedBehindTheGreatestNumber(t *testing.T) {
	for _, other := range []string{"", framedBy(1, "old", 32), framedBy(greatest-1, "old", 32), framedBy(greatest, "as much", 32), strings.Repeat("\xff", 32)} {
		d := made(t, 3, 32)
		lays(t, d, framedBy(greatest, "last", 32), other)
		puts(t, d, 2, "other")
		refuses(t, "on a", d, 0, 1, "text")
		refuses(t, "on b", d, 1, 0, "text")
		refuses(t, "empty", d, 0, 1, "")
		loads(t, "there still", d, 0, 1, greatest, "last")
		d.Flush()
		refuses(t, "flushed", d, 0, 1, "text")
	}
	d := made(t, 2, 32)
	lays(t, d, framedBy(greatest-1, "last but one", 32))
	begins(t, "the last", d, 0, 1, "last", 1, greatest)
	refuses(t, "pending", d, 0, 1, "text")
	d.Crash([]int{31})
	saves(t, "the last", d, 0, 1, "last", 1, greatest)
	refuses(t, "saved", d, 0, 1, "text")
}

func TestSlotsAreApart(t *testing.T) {
	d, e := made(t, 6, 32), made(t, 6, 32)
	for n := uint64(1); n < 20; n++ {
		even, odd := int(n+1)%2, int(n)%2
		begins(t, "one", d, 0, 1, fmt.Sprint("one ", n), even, n)
		begins(t, "the next", d, 5, 3, fmt.Sprint("next ", n), 3+2*odd, n)
		saves(t, "a third", e, 0, 1, fmt.Sprint("third ", n), even, n)
	}
	loads(t, "one", d, 0, 1, 19, "one 19")
	loads(t, "the next", d, 5, 3, 19, "next 19")
	loads(t, "a third", e, 0, 1, 19, "third 19")
	loads(t, "none", d, 2, 4, 0, "")
}

// P9.4

func TestWhatIsFramedIsUnframed(t *testing.T) {
	for _, size := range sizes() {
		for _, n := range numbers() {
			for _, text := range texts(size) {
				s, ok := Frame(n, text, size)
				if !ok {
					t.Errorf("%d, %d bytes of %d: no frame", n, len(text), size)
				}
				unframes(t, fmt.Sprint(size), s, n, text)
			}
		}
	}
	r := rand.New(rand.NewSource(92))
	for range 5000 {
		size := 32 + r.Intn(481)
		n, text := r.Uint64()>>r.Intn(64)|1, randomText(r, size-18)
		frames(t, n, text, size)
		unframes(t, "random", framedBy(n, text, size), n, text)
	}
}

// cuts overwrites one sector by another, cut short after each number of bytes.
func cuts(t *testing.T, old, sector string) {
	t.Helper()
	n, s, was := Unframe(old)
	m, r, _ := Unframe(sector)
	for cut := 0; cut <= len(old); cut++ {
		mixed := sector[:cut] + old[cut:]
		k, x, ok := Unframe(mixed)
		before := ok == was && k == n && x == s
		after := ok && k == m && x == r
		if ok && !before && !after || cut == 0 && !before || cut == len(old) && !after {
			t.Errorf("%q over %q, cut at %d: %d, %q, %v", sector, old, cut, k, x, ok)
		}
		if !ok && (k != 0 || x != "") {
			t.Errorf("%q over %q, cut at %d: %d, %q beside false", sector, old, cut, k, x)
		}
	}
}

func TestATornFrameIsNeverAMixture(t *testing.T) {
	for _, size := range []int{32, 33, 64} {
		for _, n := range numbers() {
			for _, text := range texts(size) {
				cuts(t, strings.Repeat("\x00", size), framedBy(n, text, size))
			}
			for _, m := range numbers() {
				if n == m {
					continue
				}
				for _, text := range []string{"", "a", strings.Repeat("o", size-18), strings.Repeat("\x00", size-18)} {
					cuts(t, framedBy(m, text, size), framedBy(n, "new", size))
					cuts(t, framedBy(m, "old", size), framedBy(n, text, size))
				}
			}
		}
	}
}

// Texts that hold numbers themselves make no torn frame a whole one.
func TestATornFrameOfTextsLikeNumbers(t *testing.T) {
	r := rand.New(rand.NewSource(93))
	for range 4000 {
		size := 32 + r.Intn(10)
		n := r.Uint64() & 0x0101010101010101
		m := r.Uint64() & 0x0101010101010101
		if n == 0 || n == m {
			continue
		}
		old := strings.Repeat("\x00", size)
		if m != 0 {
			old, _ = Frame(m, likeNumbers(r, size-18), size)
		}
		sector, _ := Frame(n, likeNumbers(r, size-18), size)
		cuts(t, old, sector)
	}
}

func likeNumbers(r *rand.Rand, most int) string {
	b := make([]byte, r.Intn(most+1))
	for i := range b {
		b[i] = byte(r.Intn(2))
	}
	return string(b)
}

// survives crashes a disk during a Begin, cut short at each place, and hands on the disk that is left with what it loads.
func survives(t *testing.T, name string, laid func() *disk.Disk, then func(d *disk.Disk, n uint64, s string)) {
	t.Helper()
	size := laid().Size()
	for cut := -1; cut <= size+1; cut++ {
		d := laid()
		n, s := Load(d, 0, 1)
		if !Begin(d, 0, 1, "new") || d.Pending() != 1 {
			t.Fatalf("%s: not begun", name)
		}
		d.Crash([]int{cut})
		m, r := Load(d, 0, 1)
		before, after := m == n && r == s, m == n+1 && r == "new"
		if !before && !after || cut <= 0 && !before || cut >= size && !after {
			t.Errorf("%s: cut at %d: %d, %q; want %d, %q or the next", name, cut, m, r, n, s)
		}
		then(d, m, r)
	}
}

// disksToTear are slots of which the next write lies on each of the two sectors, over what was there before.
func disksToTear(t *testing.T) []func() *disk.Disk {
	var l []func() *disk.Disk
	for _, size := range []int{32, 40} {
		for many := range 5 {
			l = append(l, func() *disk.Disk {
				d := made(t, 2, size)
				for n := range many {
					Save(d, 0, 1, fmt.Sprint("saved ", n))
				}
				return d
			})
		}
		for _, n := range numbers() {
			if n > greatest-3 {
				n = greatest - 3
			}
			for at := range 2 {
				for _, older := range []string{"", framedBy(n-n%2, "oldest", size)} {
					l = append(l, func() *disk.Disk {
						d := made(t, 2, size)
						puts(t, d, at, framedBy(n+1, "old", size))
						puts(t, d, 1-at, older)
						d.Flush()
						return d
					})
				}
			}
		}
	}
	return l
}

func TestACrashDuringBeginLeavesTheOldOrTheNew(t *testing.T) {
	for k, laid := range disksToTear(t) {
		survives(t, fmt.Sprint(k), laid, func(d *disk.Disk, n uint64, s string) {
			if !Save(d, 0, 1, "again") {
				t.Errorf("%d: not saved again", k)
			}
			loads(t, "again", d, 0, 1, n+1, "again")
			d.Crash(nil)
			loads(t, "again, crashed", d, 0, 1, n+1, "again")
		})
	}
}

// What a crash left torn may be torn again.
func TestACrashBehindACrash(t *testing.T) {
	for k, laid := range disksToTear(t)[:20] {
		survives(t, fmt.Sprint(k), laid, func(d *disk.Disk, n uint64, s string) {
			was := stateOf(d).safe
			survives(t, fmt.Sprint(k, " again"), func() *disk.Disk {
				e := made(t, 2, d.Size())
				lays(t, e, was...)
				return e
			}, func(*disk.Disk, uint64, string) {})
		})
	}
}

// Any number of saves, and of crashes while no other write is pending: Load never tells less than what was saved last.
func TestRandomSavesAndCrashes(t *testing.T) {
	r := rand.New(rand.NewSource(94))
	for range 100 {
		size := 32 + r.Intn(9)
		d := made(t, 2, size)
		n, s := uint64(0), ""
		if r.Intn(2) == 0 {
			n, s = uint64(1)<<(8*(1+r.Intn(7)))-uint64(r.Intn(5)), "laid"
			lays(t, d, framedBy(n, s, size))
		}
		for range 200 {
			text := randomText(r, size-18)
			if !Begin(d, 0, 1, text) {
				t.Fatal("not begun")
			}
			cut := []int{0, r.Intn(size), r.Intn(8), size - r.Intn(9), size}[r.Intn(5)]
			d.Crash([]int{cut})
			m, x := Load(d, 0, 1)
			before, after := m == n && x == s, m == n+1 && x == text
			if !before && !after || cut == size && !after {
				t.Fatalf("cut at %d: %d, %q; want %d, %q or the next, %q", cut, m, x, n, s, text)
			}
			n, s = m, x
		}
	}
}

// Random calls on a disk with other writes and crashes: each one does what the document's words do, byte by byte.
func TestRandomCalls(t *testing.T) {
	r := rand.New(rand.NewSource(95))
	for range 100 {
		sectors, size := 1+r.Intn(4), 32+r.Intn(3)
		d := made(t, sectors, size)
		for range 150 {
			a, b := r.Intn(sectors+2)-1, r.Intn(sectors+2)-1
			switch r.Intn(6) {
			case 0:
				puts(t, d, r.Intn(sectors), randomText(r, size))
			case 1:
				puts(t, d, r.Intn(sectors), framedBy(uint64(r.Intn(5)), randomText(r, size-18), size))
			case 2:
				d.Crash([]int{r.Intn(size + 1), r.Intn(size + 1), r.Intn(size + 1)})
			default:
				tries(t, r, d, a, b, randomText(r, size-16))
			}
		}
	}
}

// tries asks for Begin or Save, whichever it draws, and holds what it does against the document's words.
func tries(t *testing.T, r *rand.Rand, d *disk.Disk, a, b int, text string) {
	t.Helper()
	number, s, from := loadByHand(d, a, b)
	loads(t, "random", d, a, b, number, s)
	_, hasA := d.Read(a)
	_, hasB := d.Read(b)
	if a == b || !hasA || !hasB || len(text) > d.Size()-18 || number == greatest {
		refuses(t, "random", d, a, b, text)
		return
	}
	to := a
	if from == a {
		to = b
	}
	if r.Intn(2) == 0 {
		begins(t, "random", d, a, b, text, to, number+1)
	} else {
		saves(t, "random", d, a, b, text, to, number+1)
	}
}
