package wal

import (
	"bytes"
	"countersign/disk"
	"encoding/binary"
	"fmt"
	"math"
	"math/rand"
	"slices"
	"strings"
	"testing"
)

const (
	least    = math.MinInt
	most     = math.MaxInt
	greatest = uint64(math.MaxUint64)
)

// said is what a record's frame says, byte by byte.
func said(n, previous uint64, text string) string {
	b := binary.AppendUvarint(nil, n)
	b = binary.AppendUvarint(b, previous)
	return string(b) + text
}

// frame sets the bytes of a framed sector one part after the other.
func frame(mark uint64, inside string, size int) string {
	b := make([]byte, size)
	binary.BigEndian.PutUint64(b, mark)
	binary.BigEndian.PutUint16(b[8:], uint16(len(inside)))
	copy(b[10:size-8], inside)
	binary.BigEndian.PutUint64(b[size-8:], mark)
	return string(b)
}

// unframe takes the parts of a sector, if it is framed.
func unframe(d *disk.Disk, at int) (uint64, string, bool) {
	s, _ := d.Read(at)
	b := []byte(s)
	first, last := b[:8], b[len(b)-8:]
	n := int(b[8])*256 + int(b[9])
	if !bytes.Equal(first, last) || bytes.Equal(first, make([]byte, 8)) || n+18 > len(b) {
		return 0, "", false
	}
	return binary.BigEndian.Uint64(first), string(b[10:][:n]), true
}

// number takes a number from the front of a text, if there is one in as few bytes as can be.
func number(s string) (uint64, string, bool) {
	n, many := binary.Uvarint([]byte(s))
	if many <= 0 || many > 1 && s[many-1] == 0 {
		return 0, "", false
	}
	return n, s[many:], true
}

// kept is a record that a model holds.
type kept struct {
	mark uint64
	text string
}

// model is a log by the document's words.
type model struct {
	from, many       int
	base, mark, next uint64
	records          []kept
}

// modelOf reads a log off a disk by hand.
func modelOf(d *disk.Disk, from, many int, base, mark uint64) *model {
	m := &model{from: from, many: many, base: base, mark: mark}
	for at := from; at < from+many; at++ {
		if k, _, ok := unframe(d, at); ok && k > m.next {
			m.next = k
		}
	}
	if m.next < greatest {
		m.next++
	}
	before := mark
	for n := base + 1; n <= base+uint64(many); n++ {
		k, s, framed := unframe(d, m.place(n))
		i, s, first := number(s)
		j, s, second := number(s)
		if !framed || !first || !second || i != n || j != before {
			break
		}
		m.records = append(m.records, kept{k, s})
		before = k
	}
	return m
}

func (m *model) place(n uint64) int {
	return m.from + int(n%uint64(m.many))
}

func (m *model) last() uint64 {
	return m.base + uint64(len(m.records))
}

// lastMark is the mark of the last record, or of the base.
func (m *model) lastMark() uint64 {
	if len(m.records) == 0 {
		return m.mark
	}
	return m.records[len(m.records)-1].mark
}

func (m *model) has(n uint64) bool {
	return n >= m.base && n <= m.last()
}

func (m *model) cut(n uint64) {
	m.records = slices.Clone(m.records[:n-m.base])
}

func (m *model) drop(n uint64) {
	if n > m.base {
		m.mark = m.records[n-m.base-1].mark
	}
	m.records = slices.Clone(m.records[n-m.base:])
	m.base = n
}

// state is all that a disk tells of itself.
type state struct {
	pending    int
	read, safe []string
}

func stateOf(d *disk.Disk) state {
	s := state{pending: d.Pending()}
	for at := range d.Sectors() {
		r, _ := d.Read(at)
		s.read = append(s.read, r)
		r, _ = d.Safe(at)
		s.safe = append(s.safe, r)
	}
	return s
}

func same(t *testing.T, name string, d *disk.Disk, want state) {
	got := stateOf(d)
	if got.pending != want.pending || !slices.Equal(got.read, want.read) || !slices.Equal(got.safe, want.safe) {
		t.Helper()
		t.Errorf("%s: %d pending, the sectors\n%q,\n%q, want %d,\n%q,\n%q", name, got.pending, got.read, got.safe, want.pending, want.read, want.safe)
	}
}

// made is a new disk, which there is.
func made(t *testing.T, sectors, size int) *disk.Disk {
	t.Helper()
	d, ok := disk.New(sectors, size)
	if !ok {
		t.Fatalf("no disk of %d sectors of %d bytes", sectors, size)
	}
	return d
}

// puts writes a sector as it is told, past the log.
func puts(t *testing.T, d *disk.Disk, at int, sector string) {
	t.Helper()
	if !d.Write(at, sector) {
		t.Fatalf("not written to %d: %q", at, sector)
	}
}

// laid is a record that is written past the log: its sector, its mark, what its frame says.
type laid struct {
	at     int
	mark   uint64
	inside string
}

// lays writes and flushes framed sectors, past the log.
func lays(t *testing.T, d *disk.Disk, l ...laid) {
	t.Helper()
	for _, x := range l {
		puts(t, d, x.at, frame(x.mark, x.inside, d.Size()))
	}
	d.Flush()
}

func tells(t *testing.T, name string, l *Log, n uint64, text string, ok bool) {
	if s, got := l.Text(n); s != text || got != ok {
		t.Helper()
		t.Errorf("%s: Text(%d): %q, %v; want %q, %v", name, n, s, got, text, ok)
	}
}

// stands asks a log for its base, its mark, its last record and its texts, and for those that it doesn't hold.
func stands(t *testing.T, name string, l *Log, base, mark uint64, texts ...string) {
	t.Helper()
	last := base + uint64(len(texts))
	if l.Base() != base || l.Mark() != mark || l.Last() != last {
		t.Errorf("%s: base %d, mark %d, last %d; want %d, %d, %d", name, l.Base(), l.Mark(), l.Last(), base, mark, last)
	}
	for k, s := range texts {
		tells(t, name, l, base+1+uint64(k), s, true)
	}
	for _, n := range notHeld(base, last) {
		tells(t, name, l, n, "", false)
	}
}

// notHeld are numbers near those that a log holds, and far from them.
func notHeld(base, last uint64) []uint64 {
	l := []uint64{0, base, last + 1, last + 2, last + 127, last + 128, last + 129, 1<<63 - 1, 1 << 63, greatest - 1, greatest}
	for back := uint64(1); back < 5; back++ {
		l = append(l, base-back)
	}
	return slices.DeleteFunc(l, func(n uint64) bool { return n > base && n <= last })
}

// pair is a log, and its model, on one disk.
type pair struct {
	d *disk.Disk
	l *Log
	m *model
}

// opens asks Open for a log that is as its model, and that the disk stays as it is.
func opens(t *testing.T, name string, d *disk.Disk, from, many int, base, mark uint64) *pair {
	t.Helper()
	before := stateOf(d)
	l, ok := Open(d, from, many, base, mark)
	if l == nil || !ok {
		t.Fatalf("%s: Open(%d, %d, %d, %d): %v, %v", name, from, many, base, mark, l, ok)
	}
	p := &pair{d, l, modelOf(d, from, many, base, mark)}
	p.alike(t, name)
	same(t, name+": opened", d, before)
	return p
}

// again opens the log anew with its base and mark.
func (p *pair) again(t *testing.T, name string) *pair {
	t.Helper()
	return opens(t, name, p.d, p.m.from, p.m.many, p.l.Base(), p.l.Mark())
}

func noLog(t *testing.T, name string, d *disk.Disk, from, many int, base, mark uint64) {
	t.Helper()
	before := stateOf(d)
	if l, ok := Open(d, from, many, base, mark); l != nil || ok {
		t.Errorf("%s: Open(%d, %d, %d, %d): %v, %v; want nil, false", name, from, many, base, mark, l, ok)
	}
	same(t, name+": not opened", d, before)
}

// texts are what the model says that the log holds.
func (p *pair) texts() []string {
	var l []string
	for _, r := range p.m.records {
		l = append(l, r.text)
	}
	return l
}

func (p *pair) alike(t *testing.T, name string) {
	t.Helper()
	stands(t, name, p.l, p.m.base, p.m.mark, p.texts()...)
}

// appends asks Append to write the frame of the next record to its sector, to hold it, and to do nothing else.
func (p *pair) appends(t *testing.T, name, text string) {
	t.Helper()
	m, want := p.m, stateOf(p.d)
	n := m.last() + 1
	want.pending++
	want.read[m.place(n)] = frame(m.next, said(n, m.lastMark(), text), p.d.Size())
	if !p.l.Append(text) {
		t.Errorf("%s: %q is not appended", name, text)
	}
	m.records = append(m.records, kept{m.next, text})
	m.next++
	same(t, name+": appended", p.d, want)
	p.alike(t, name)
}

// refuses asks Append for false, and that nothing happens.
func (p *pair) refuses(t *testing.T, name, text string) {
	t.Helper()
	before := stateOf(p.d)
	if p.l.Append(text) {
		t.Errorf("%s: %d bytes are appended", name, len(text))
	}
	same(t, name+": refused", p.d, before)
	p.alike(t, name)
}

// tries asks Append for what the document's words say of a text.
func (p *pair) tries(t *testing.T, name, text string) {
	t.Helper()
	m := p.m
	inside := said(m.last()+1, m.lastMark(), text)
	if len(m.records) == m.many || len(inside) > p.d.Size()-18 || m.next == greatest {
		p.refuses(t, name, text)
	} else {
		p.appends(t, name, text)
	}
}

// syncs asks Sync to flush the disk, and to do nothing else.
func (p *pair) syncs(t *testing.T, name string) {
	t.Helper()
	want := stateOf(p.d)
	want.pending, want.safe = 0, want.read
	p.l.Sync()
	same(t, name+": synced", p.d, want)
	p.alike(t, name)
}

// cuts asks Cut for what the document's words say, and drops asks Drop.
func (p *pair) cuts(t *testing.T, name string, n uint64) bool {
	t.Helper()
	return p.letsGo(t, name+": cut", n, p.l.Cut, p.m.cut)
}

func (p *pair) drops(t *testing.T, name string, n uint64) bool {
	t.Helper()
	return p.letsGo(t, name+": dropped", n, p.l.Drop, p.m.drop)
}

// letsGo makes a call, and does the same by hand if n is the base or held; the disk stays as it is.
func (p *pair) letsGo(t *testing.T, name string, n uint64, call func(uint64) bool, byHand func(uint64)) bool {
	t.Helper()
	want, before := p.m.has(n), stateOf(p.d)
	if got := call(n); got != want {
		t.Errorf("%s: at %d: %v", name, n, got)
	}
	if want {
		byHand(n)
	}
	same(t, name, p.d, before)
	p.alike(t, name)
	return want
}

// cutsTo and dropsTo are for numbers that there must be.
func (p *pair) cutsTo(t *testing.T, name string, n uint64) {
	t.Helper()
	if !p.cuts(t, name, n) {
		t.Errorf("%s: %d is not held", name, n)
	}
}

func (p *pair) dropsTo(t *testing.T, name string, n uint64) {
	t.Helper()
	if !p.drops(t, name, n) {
		t.Errorf("%s: %d is not held", name, n)
	}
}

// drain drops the records one by one, so that the mark of each is seen.
func (p *pair) drain(t *testing.T, name string) {
	t.Helper()
	for n := p.l.Base(); n < p.l.Last(); n++ {
		p.dropsTo(t, name, n+1)
	}
}

// count is a log with so many records, which lie flushed on sectors from 2 on of a disk with others around them.
func count(t *testing.T, many, size, records int) *pair {
	t.Helper()
	d := made(t, many+4, size)
	p := opens(t, "new", d, 2, many, 0, 0)
	for n := range records {
		if len(p.m.records) == many {
			p.dropsTo(t, "full", p.l.Base()+1)
		}
		p.appends(t, "count", fmt.Sprint("old", n+1))
	}
	p.syncs(t, "count")
	return p
}

func randomText(r *rand.Rand, most int) string {
	b := make([]byte, r.Intn(most+1))
	for i := range b {
		b[i] = byte(r.Intn(4) * 85)
	}
	return string(b)
}

// P10.1: which logs there are

func TestOpenAtTheEdgesOfMany(t *testing.T) {
	d := made(t, 256, 32)
	for _, many := range []int{2, 3, 64, 127, 128} {
		opens(t, "many", d, 0, many, 0, 0)
		opens(t, "many", d, 256-many, many, 0, 0)
	}
	for _, many := range []int{1, 0, -1, -2, -128, 129, 130, 256, 257, 1 << 32, 1<<32 + 2, least, least + 1, least + 2, most, most - 1} {
		for _, from := range []int{0, 1, 128, 254, 255} {
			noLog(t, "many", d, from, many, 0, 0)
		}
	}
}

func TestOpenWhereASectorIsNoneOfTheDisk(t *testing.T) {
	for _, sectors := range []int{1, 2, 3, 4, 7} {
		d := made(t, sectors, 32)
		for many := 2; many <= sectors+1; many++ {
			for from := -many - 1; from <= sectors+1; from++ {
				if from >= 0 && from+many <= sectors {
					opens(t, "there", d, from, many, 0, 0)
				} else {
					noLog(t, "not all there", d, from, many, 0, 0)
				}
			}
			for _, from := range []int{least, least + 1, least + many, -128, -256, 256, 257, most, most - 1, most - many, most - many + 1} {
				noLog(t, "far", d, from, many, 0, 0)
			}
		}
		noLog(t, "as many as can be", d, 0, 128, 0, 0)
	}
	d := made(t, 128, 32)
	opens(t, "all of it", d, 0, 128, 0, 0)
	noLog(t, "the first is none", d, -1, 128, 0, 0)
	noLog(t, "the last is none", d, 1, 128, 0, 0)
}

func TestOpenAtTheEdgesOfBase(t *testing.T) {
	d := made(t, 4, 64)
	for _, mark := range []uint64{0, 1, 1 << 62, 1<<62 + 1, greatest} {
		for _, base := range []uint64{0, 1, 2, 127, 128, 1<<62 - 1, 1 << 62} {
			p := opens(t, "base", d, 1, 3, base, mark)
			stands(t, "base", p.l, base, mark)
		}
		for _, base := range []uint64{1<<62 + 1, 1<<62 + 2, 1<<63 - 1, 1 << 63, greatest - 1, greatest} {
			noLog(t, "base", d, 1, 3, base, mark)
		}
	}
	p := opens(t, "the greatest base", d, 1, 3, 1<<62, 7)
	for k := range 3 {
		p.appends(t, "behind it", fmt.Sprint(k))
	}
	p.syncs(t, "behind it")
	stands(t, "again", p.again(t, "again").l, 1<<62, 7, "0", "1", "2")
	p.dropsTo(t, "past it", 1<<62+1)
	noLog(t, "past it", d, 1, 3, p.l.Base(), p.l.Mark())
}

// P10.1: what a log holds

func TestOpenOnZeros(t *testing.T) {
	for _, many := range []int{2, 3, 128} {
		p := opens(t, "zeros", made(t, 130, 32), 1, many, 0, 0)
		stands(t, "zeros", p.l, 0, 0)
		q := opens(t, "zeros, with a base", made(t, 130, 32), 1, many, 9, 5)
		stands(t, "zeros, with a base", q.l, 9, 5)
		p.appends(t, "the first mark", "a")
		q.appends(t, "the first mark", "a")
	}
}

// linked are records with marks 10, 20, .. behind record 0: each in its sector of many from sector 1 on.
func linked(many, records int) []laid {
	var l []laid
	for n := 1; n <= records; n++ {
		l = append(l, laid{1 + n%many, uint64(10 * n), said(uint64(n), uint64(10*(n-1)), fmt.Sprint("r", n))})
	}
	return l
}

func TestOpenHoldsWhatIsLinked(t *testing.T) {
	for records := range 6 {
		d := made(t, 7, 40)
		lays(t, d, linked(5, records)...)
		p := opens(t, "linked", d, 1, 5, 0, 0)
		stands(t, "linked", p.l, 0, 0, []string{"r1", "r2", "r3", "r4", "r5"}[:records]...)
		p.drain(t, "linked")
	}
}

func TestOpenWithABaseAndAMark(t *testing.T) {
	d := made(t, 7, 40)
	lays(t, d, linked(5, 5)...)
	all := []string{"r1", "r2", "r3", "r4", "r5"}
	for base := uint64(0); base <= 5; base++ {
		p := opens(t, "fitting", d, 1, 5, base, 10*base)
		stands(t, "fitting", p.l, base, 10*base, all[base:]...)
		for _, mark := range []uint64{10*base + 1, 10*base - 1, 10*base + 10, 10*base + 256, greatest} {
			q := opens(t, "another mark", d, 1, 5, base, mark)
			stands(t, "another mark", q.l, base, mark)
			q.appends(t, "another mark", "x")
			d.Crash(nil)
		}
		if base > 0 {
			q := opens(t, "the mark of the record ahead", d, 1, 5, base, 10*base-10)
			stands(t, "the mark of the record ahead", q.l, base, 10*base-10)
		}
	}
	for _, base := range []uint64{6, 7, 10, 1 << 62} {
		p := opens(t, "far", d, 1, 5, base, 50)
		stands(t, "far", p.l, base, 50)
	}
	lays(t, d, laid{2, 70, said(1, 8, "r1")})
	p := opens(t, "record 0 with a mark", d, 1, 5, 0, 8)
	stands(t, "record 0 with a mark", p.l, 0, 8, "r1")
}

// What stands in the sector of record 3 instead of it, so that just two are held.
func broken(size int) map[string]string {
	b := []byte(frame(30, said(3, 20, "r3"), size))
	b[size-1]++
	long := []byte(frame(30, said(3, 20, "r3"), size))
	long[9] = byte(size - 17)
	whole := frame(30, said(3, 20, strings.Repeat("x", size-20)), size)
	return map[string]string{
		"zeros":                       strings.Repeat("\x00", size),
		"unlike ends":                 string(b),
		"a length that is too great":  string(long),
		"mark 0":                      frame(0, said(3, 20, "r3"), size),
		"a torn sector":               whole[:size-8] + strings.Repeat("\x00", 8),
		"the number before":           frame(30, said(2, 20, "r3"), size),
		"the number behind":           frame(30, said(4, 20, "r3"), size),
		"the number of a round ahead": frame(30, said(8, 20, "r3"), size),
		"number 0":                    frame(30, said(0, 20, "r3"), size),
		"a number that begins alike":  frame(30, said(3+128, 20, "r3"), size),
		"the mark before":             frame(30, said(3, 10, "r3"), size),
		"its own mark":                frame(30, said(3, 30, "r3"), size),
		"the mark and one":            frame(30, said(3, 21, "r3"), size),
		"no mark before":              frame(30, said(3, 0, "r3"), size),
		"a mark that begins alike":    frame(30, said(3, 20+128, "r3"), size),
		"a great mark":                frame(30, said(3, greatest, "r3"), size),
		"the mark and the number":     frame(30, said(20, 3, "r3"), size),
		"nothing":                     frame(30, "", size),
		"a number that is cut":        frame(30, "\x83", size),
		"one number":                  frame(30, "\x03", size),
		"a mark that is cut":          frame(30, "\x03\x94", size),
		"a number with a byte 0":      frame(30, "\x83\x00\x14r3", size),
		"a mark with a byte 0":        frame(30, "\x03\x94\x00r3", size),
		"a number of eleven bytes":    frame(30, strings.Repeat("\xff", 10)+"\x01\x14", size),
		"figures":                     frame(30, "3 20 r3", size),
		"a text alone":                frame(30, "r3", size),
	}
}

func TestOpenStopsAtWhatIsBroken(t *testing.T) {
	for name, sector := range broken(40) {
		d := made(t, 7, 40)
		lays(t, d, linked(5, 5)...)
		puts(t, d, 4, sector)
		p := opens(t, name, d, 1, 5, 0, 0)
		stands(t, name, p.l, 0, 0, "r1", "r2")
		p.appends(t, name, "new")
		p.drain(t, name)

		q := opens(t, name+": behind it", d, 1, 5, 3, 30)
		stands(t, name+": behind it", q.l, 3, 30, "r4", "r5")
	}
}

// The first record may be the one that is missing, or the last one.
func TestOpenStopsAtEachRecord(t *testing.T) {
	all := []string{"r1", "r2", "r3", "r4", "r5"}
	for n := 1; n <= 5; n++ {
		d := made(t, 7, 40)
		lays(t, d, linked(5, 5)...)
		puts(t, d, 1+n%5, "")
		p := opens(t, "gone", d, 1, 5, 0, 0)
		stands(t, fmt.Sprint(n, " is gone"), p.l, 0, 0, all[:n-1]...)
	}
}

// A record counts in its own sector alone.
func TestOpenOfRecordsInOtherSectors(t *testing.T) {
	d := made(t, 7, 40)
	for _, x := range linked(5, 5) {
		lays(t, d, laid{1 + x.at%5, x.mark, x.inside})
	}
	p := opens(t, "all of them beside their sectors", d, 1, 5, 0, 0)
	stands(t, "all of them beside their sectors", p.l, 0, 0)
	stands(t, "from 0", opens(t, "from 0", d, 0, 5, 0, 0).l, 0, 0)
	stands(t, "from 2", opens(t, "from 2", d, 2, 5, 0, 0).l, 0, 0, "r1", "r2", "r3")
	stands(t, "one less", opens(t, "one less", d, 1, 4, 0, 0).l, 0, 0)
}

// Marks need not be in an order, nor differ.
func TestOpenTakesAnyMarks(t *testing.T) {
	d := made(t, 4, 64)
	lays(t, d, laid{1, 9, said(1, 0, "a")}, laid{2, 3, said(2, 9, "b")}, laid{3, 3, said(3, 3, "c")}, laid{0, greatest - 2, said(4, 3, "d")})
	p := opens(t, "any marks", d, 0, 4, 0, 0)
	stands(t, "any marks", p.l, 0, 0, "a", "b", "c", "d")
	p.drain(t, "any marks")
	stands(t, "drained", p.l, 4, greatest-2)
	p.appends(t, "the last one", "e")
	p.refuses(t, "no mark more", "f")
}

func TestOpenHoldsEmptyAndAnyTexts(t *testing.T) {
	d := made(t, 4, 64)
	texts := []string{"", "\x00", "\xff\x80", strings.Repeat("y", 64-18-2)}
	for k, s := range texts {
		lays(t, d, laid{(k + 1) % 4, uint64(k) + 1, said(uint64(k)+1, uint64(k), s)})
	}
	p := opens(t, "texts", d, 0, 4, 0, 0)
	stands(t, "texts", p.l, 0, 0, texts...)
}

// All sectors lead on to each other in a full log, and in one that went round: it holds many records even so.
func TestOpenHoldsAtMostMany(t *testing.T) {
	for _, many := range []int{2, 3, 128} {
		p := count(t, many, 64, many)
		q := p.again(t, "as many as can be")
		if got := q.l.Last() - q.l.Base(); got != uint64(many) {
			t.Errorf("%d: %d are held", many, got)
		}
		q.refuses(t, "one more", "")
		p = count(t, many, 64, 2*many+1)
		q = p.again(t, "round")
		if q.l.Base() != uint64(many)+1 || q.l.Last() != uint64(2*many)+1 {
			t.Errorf("%d: %d to %d are held", many, q.l.Base(), q.l.Last())
		}
		q.refuses(t, "one more", "")
	}
}

func TestOpenTakesWhatIsPending(t *testing.T) {
	d := made(t, 4, 40)
	p := opens(t, "new", d, 1, 3, 0, 0)
	p.appends(t, "a", "a")
	p.syncs(t, "a")
	p.appends(t, "b", "b")
	stands(t, "pending", p.again(t, "pending").l, 0, 0, "a", "b")
	puts(t, d, 2, "")
	stands(t, "pending, and gone", p.again(t, "gone").l, 0, 0)
	d.Crash(nil)
	stands(t, "crashed", p.again(t, "crashed").l, 0, 0, "a")
}

// P10.1: next, by the mark of what is appended

// nextIs asks for the mark of the record that is appended next.
func nextIs(t *testing.T, name string, p *pair, want uint64) {
	t.Helper()
	if p.m.next != want {
		t.Errorf("%s: next is %d by hand; want %d", name, p.m.next, want)
	}
	p.appends(t, name, "n")
	p.dropsTo(t, name, p.l.Last())
	if p.l.Mark() != want {
		t.Errorf("%s: next was %d, want %d", name, p.l.Mark(), want)
	}
}

func TestNextOnZeros(t *testing.T) {
	for _, base := range []uint64{0, 1, 9, 1 << 62} {
		for _, mark := range []uint64{0, 1, 99, 1 << 40} {
			nextIs(t, "zeros", opens(t, "zeros", made(t, 4, 64), 1, 3, base, mark), 1)
		}
	}
}

func TestNextIsOneMoreThanTheGreatest(t *testing.T) {
	for n := 1; n <= 5; n++ {
		for _, mark := range []uint64{51, 127, 128, 255, 256, 65535, 1 << 32, 1<<63 - 1, 1 << 63, greatest - 2} {
			d := made(t, 7, 64)
			lays(t, d, linked(5, 5)...)
			lays(t, d, laid{1 + n%5, mark, said(uint64(n), uint64(10*n-10), "great")})
			p := opens(t, "held", d, 1, 5, 0, 0)
			p.dropsTo(t, "held", uint64(n))
			nextIs(t, "held", p, mark+1)
		}
	}
}

// What is not held counts too: behind a gap, with another number or mark ahead, with a text that says no numbers.
func TestNextIsOfSectorsThatAreNotHeld(t *testing.T) {
	for name, inside := range map[string]string{
		"a record of a later round":  said(104, 3, "later"),
		"a record of the past":       said(0, 0, "past"),
		"a record without its mark":  said(4, 99, "cut"),
		"nothing":                    "",
		"no numbers":                 "\x80",
		"the longest text":           strings.Repeat("\xff", 64-18),
		"the record, behind the gap": said(4, 30, "gap"),
	} {
		for at := 1; at <= 5; at++ {
			for _, mark := range []uint64{1, 49, 50, 51, 300, 1 << 63, greatest - 2} {
				d := made(t, 7, 64)
				lays(t, d, linked(5, 5)...)
				lays(t, d, laid{at, mark, inside})
				p := opens(t, name, d, 1, 5, 0, 0)
				want := max(mark, 50) + 1
				if at == 1 {
					want = max(mark, 40) + 1
				}
				p.dropsTo(t, name, p.l.Last())
				nextIs(t, name, p, want)

				q := opens(t, name+": base far off", d, 1, 5, 1000, 7)
				stands(t, name+": base far off", q.l, 1000, 7)
			}
		}
	}
}

// Only the log's own sectors count, and of them only those that are framed.
func TestNextIsOfTheLogsFramedSectorsAlone(t *testing.T) {
	d := made(t, 7, 64)
	lays(t, d, linked(5, 5)...)
	lays(t, d, laid{0, 1000, said(1, 0, "ahead")}, laid{6, 2000, said(1, 0, "behind")})
	p := opens(t, "others", d, 1, 5, 0, 0)
	p.dropsTo(t, "others", 5)
	nextIs(t, "others", p, 51)
	d.Crash(nil)
	torn := frame(3000, "", 64)
	puts(t, d, 1, torn[:63]+"\x00")
	p = opens(t, "unlike ends", d, 1, 5, 0, 0)
	nextIs(t, "unlike ends", p, 41)
	d.Crash(nil)
	long := []byte(frame(3000, "", 64))
	long[9] = 64 - 17
	puts(t, d, 1, string(long))
	nextIs(t, "a length that is too great", opens(t, "length", d, 1, 5, 0, 0), 41)
}

func TestNextIsOfEachSector(t *testing.T) {
	for _, many := range []int{2, 3, 127, 128} {
		for k := range many {
			d := made(t, many+2, 64)
			lays(t, d, laid{1 + k, 77, ""})
			nextIs(t, fmt.Sprint(k, " of ", many), opens(t, "each", d, 1, many, 5, 5), 78)
		}
	}
}

func TestNextIsOfWhatIsPending(t *testing.T) {
	d := made(t, 4, 64)
	puts(t, d, 1, frame(9, "", 64))
	nextIs(t, "pending", opens(t, "pending", d, 1, 3, 0, 0), 10)
	d.Crash(nil)
	nextIs(t, "crashed", opens(t, "crashed", d, 1, 3, 0, 0), 1)
}

func TestNextAtItsEdge(t *testing.T) {
	for k := range 3 {
		for _, held := range []bool{true, false} {
			for _, mark := range []uint64{greatest - 4, greatest - 3, greatest - 2, greatest - 1, greatest} {
				d := made(t, 5, 64)
				x := laid{1 + k, mark, "not held"}
				if base := uint64(k) + 2; held {
					x.inside = said(base+1, 8, "held")
					x.at = 1 + int(base+1)%3
				}
				lays(t, d, x)
				p := opens(t, "edge", d, 1, 3, uint64(k)+2, 8)
				for next := mark; next < greatest-1; next++ {
					p.appends(t, "one more", "x")
					if len(p.m.records) == 3 {
						p.dropsTo(t, "room", p.l.Last())
					}
				}
				for _, text := range []string{"", "x", strings.Repeat("x", 64)} {
					p.refuses(t, "no mark more", text)
				}
				p.syncs(t, "edge")
				q := p.again(t, "edge")
				q.refuses(t, "no mark more, opened again", "")
				q.dropsTo(t, "edge", q.l.Last())
				q.refuses(t, "no mark more, none held", "")
			}
		}
	}
}

// The mark goes on behind a cut, a drop and a refusal: no mark comes twice.
func TestNextGoesOn(t *testing.T) {
	p := opens(t, "new", made(t, 5, 40), 1, 3, 0, 0)
	for n := range 50 {
		name := fmt.Sprint("record ", n)
		p.appends(t, name, name)
		p.refuses(t, name, strings.Repeat("x", 40))
		switch n % 5 {
		case 1:
			p.cutsTo(t, name, p.l.Last()-1)
		case 3:
			p.dropsTo(t, name, p.l.Base()+1)
		case 4:
			p.cutsTo(t, name, p.l.Base())
		}
		if p.m.next != uint64(n)+2 {
			t.Errorf("%s: next is %d", name, p.m.next)
		}
	}
}

// P10.2

func TestBaseMarkLastAndTextOfAnEmptyLog(t *testing.T) {
	l, ok := Open(made(t, 4, 40), 1, 3, 0, 0)
	if !ok || l.Base() != 0 || l.Mark() != 0 || l.Last() != 0 {
		t.Error("base, mark, last")
	}
	for _, n := range []uint64{0, 1, 2, 3, 4, 1 << 62, 1 << 63, greatest} {
		tells(t, "empty", l, n, "", false)
	}
}

func TestBaseMarkLastAndTextBehindDropAndCut(t *testing.T) {
	l, _ := Open(made(t, 6, 40), 1, 5, 0, 0)
	for _, s := range []string{"a", "b", "c", "d", "e"} {
		if !l.Append(s) {
			t.Error(s, "is not appended")
		}
	}
	stands(t, "full", l, 0, 0, "a", "b", "c", "d", "e")
	if !l.Cut(4) {
		t.Error("not cut")
	}
	stands(t, "cut", l, 0, 0, "a", "b", "c", "d")
	tells(t, "cut", l, 5, "", false)
	if !l.Drop(2) {
		t.Error("not dropped")
	}
	stands(t, "dropped", l, 2, 2, "c", "d")
	for _, n := range []uint64{0, 1, 2} {
		tells(t, "dropped", l, n, "", false)
	}
	if !l.Append("f") {
		t.Error("not appended")
	}
	stands(t, "another one", l, 2, 2, "c", "d", "f")
	if !l.Drop(5) {
		t.Error("not dropped")
	}
	stands(t, "all dropped", l, 5, 6)
	if !l.Append("g") || !l.Cut(5) {
		t.Error("not appended, or not cut")
	}
	stands(t, "all cut", l, 5, 6)
}

// P10.3

func TestWhereRecordsLie(t *testing.T) {
	d := made(t, 5, 32)
	l, _ := Open(d, 1, 3, 0, 0)
	zeros := strings.Repeat("\x00", 32)
	mark := "\x00\x00\x00\x00\x00\x00\x00"
	gap := strings.Repeat("\x00", 11)
	want := []string{zeros, zeros, zeros, zeros, zeros}
	for n, at := range []int{0, 2, 3, 1, 2, 3, 1} {
		if n == 0 {
			continue
		}
		l.Drop(l.Last())
		if !l.Append(string(rune('a' + n))) {
			t.Error(n, "is not appended")
		}
		b := string(rune(n))
		want[at] = mark + b + "\x00\x03" + b + string(rune(n-1)) + string(rune('a'+n)) + gap + mark + b
		if got := stateOf(d).read; !slices.Equal(got, want) {
			t.Errorf("%d: %q, want %q", n, got, want)
		}
	}
}

func TestWhichBytesAFrameSays(t *testing.T) {
	d := made(t, 3, 64)
	puts(t, d, 0, frame(0x0102030405060707, "", 64))
	l, _ := Open(d, 0, 2, 300, 16384)
	if !l.Append("text") {
		t.Error("not appended")
	}
	inside := "\xad\x02" + "\x80\x80\x01" + "text"
	ends := "\x01\x02\x03\x04\x05\x06\x07\x08"
	want := ends + "\x00\x09" + inside + strings.Repeat("\x00", 64-18-9) + ends
	if s, _ := d.Read(1); s != want {
		t.Errorf("%q, want %q", s, want)
	}
	if !l.Append("") {
		t.Error("not appended")
	}
	inside = "\xae\x02" + "\x88\x8e\x98\xa8\xc0\xe0\x80\x81\x01"
	ends = "\x01\x02\x03\x04\x05\x06\x07\x09"
	want = ends + "\x00\x0b" + inside + strings.Repeat("\x00", 64-18-11) + ends
	if s, _ := d.Read(0); s != want {
		t.Errorf("%q, want %q", s, want)
	}
}

func TestAppendsInARow(t *testing.T) {
	for _, many := range []int{2, 3, 7, 128} {
		for _, from := range []int{0, 1, 5} {
			d := made(t, many+6, 40)
			p := opens(t, "new", d, from, many, 0, 0)
			for n := range 3*many + 1 {
				if n >= many {
					p.refuses(t, "full", "x")
					p.dropsTo(t, "full", p.l.Base()+1)
				}
				p.appends(t, "row", fmt.Sprint("text ", n))
			}
		}
	}
}

func TestAppendBehindABase(t *testing.T) {
	for _, base := range []uint64{1, 2, 3, 126, 127, 128, 16383, 1<<32 - 1, 1 << 32, 1<<62 - 1, 1 << 62} {
		for _, mark := range []uint64{0, 1, 127, 128, 1<<63 - 1, 1 << 63, greatest - 1, greatest} {
			p := opens(t, "new", made(t, 5, 64), 1, 3, base, mark)
			for k := range 3 {
				p.appends(t, "behind a base", fmt.Sprint(k))
			}
			p.refuses(t, "full", "")
			p.syncs(t, "behind a base")
			q := p.again(t, "behind a base")
			stands(t, "behind a base", q.l, base, mark, "0", "1", "2")
			q.drain(t, "behind a base")
		}
	}
}

func TestAppendOfManyAndOneMore(t *testing.T) {
	l, _ := Open(made(t, 2, 32), 0, 2, 0, 0)
	if !l.Append("a") || !l.Append("b") {
		t.Error("not appended")
	}
	if l.Append("c") || l.Append("") {
		t.Error("appended as a third one")
	}
	stands(t, "full", l, 0, 0, "a", "b")
	if !l.Drop(1) || !l.Append("c") || l.Append("d") {
		t.Error("behind a Drop")
	}
	stands(t, "behind a Drop", l, 1, 1, "b", "c")
	if !l.Cut(2) || !l.Append("e") || l.Append("f") {
		t.Error("behind a Cut")
	}
	stands(t, "behind a Cut", l, 1, 1, "b", "e")
}

func TestAppendOfTextsThatJustFit(t *testing.T) {
	for _, size := range []int{32, 33, 40, 146, 512} {
		for _, base := range []uint64{0, 126, 127, 128, 16382, 16383, 1<<62 - 1, 1 << 62} {
			for _, mark := range []uint64{0, 127, 128, 16383, 16384, 1<<63 - 1, 1 << 63, greatest} {
				for _, first := range []uint64{1, 127, 128, 1 << 60} {
					fitting(t, size, base, mark, first)
				}
			}
		}
	}
}

// fitting appends texts that just fit, behind ones that are too long by one byte, up to the log's end.
func fitting(t *testing.T, size int, base, mark, first uint64) {
	t.Helper()
	d := made(t, 4, size)
	if first > 1 {
		lays(t, d, laid{1, first - 1, ""})
	}
	p := opens(t, "fitting", d, 1, 2, base, mark)
	for range 2 {
		room := size - 18 - len(said(p.m.last()+1, p.m.lastMark(), ""))
		for _, more := range []int{1, 2, 20, 65536} {
			p.refuses(t, "too long", strings.Repeat("x", max(room, -1)+more))
		}
		if room < 0 {
			return
		}
		p.appends(t, "just fitting", strings.Repeat("y", room))
	}
	p.syncs(t, "fitting")
	p.again(t, "fitting").drain(t, "fitting")
}

func TestAppendWhereNoTextFits(t *testing.T) {
	p := opens(t, "long numbers", made(t, 2, 32), 0, 2, 1<<62, greatest)
	for _, s := range []string{"", "x", strings.Repeat("x", 14), strings.Repeat("x", 1<<17)} {
		p.refuses(t, "long numbers", s)
	}
}

// What stood in the way is gone behind a Drop, and nothing of a refusal is left.
func TestAppendBehindRefusals(t *testing.T) {
	p := count(t, 3, 40, 3)
	p.refuses(t, "full", "x")
	p.refuses(t, "full, and too long", strings.Repeat("x", 40))
	p.dropsTo(t, "room", 1)
	p.refuses(t, "too long", strings.Repeat("x", 40))
	p.appends(t, "room", "x")
	p.refuses(t, "full", "x")
}

func TestAppendDoesNotFlushAndSyncDoes(t *testing.T) {
	d := made(t, 5, 40)
	p := opens(t, "new", d, 1, 3, 0, 0)
	puts(t, d, 4, "other")
	p.appends(t, "a", "a")
	p.appends(t, "b", "b")
	if d.Pending() != 3 {
		t.Errorf("%d pending", d.Pending())
	}
	p.syncs(t, "all")
	if d.Pending() != 0 {
		t.Errorf("%d pending", d.Pending())
	}
	p.appends(t, "c", "c")
	d.Crash(nil)
	stands(t, "crashed", p.again(t, "crashed").l, 0, 0, "a", "b")
	if s, _ := d.Read(4); s[:6] != "other\x00" {
		t.Errorf("the other sector: %q", s)
	}
	p.syncs(t, "nothing pending")
	p.syncs(t, "and again")
}

// What a log holds changes by its own calls alone, whatever becomes of the disk.
func TestALogHoldsItsRecords(t *testing.T) {
	p := count(t, 3, 40, 2)
	p.appends(t, "lost", "lost")
	q := p.again(t, "another one")
	p.d.Crash(nil)
	p.alike(t, "crashed")
	q.alike(t, "crashed")
	q.cutsTo(t, "another one", 0)
	q.appends(t, "another one", "x")
	p.alike(t, "written over")
	puts(t, p.d, 3, "")
	p.alike(t, "all gone")
	q.alike(t, "all gone")
}

func TestLogsAreApart(t *testing.T) {
	d, e := made(t, 8, 40), made(t, 8, 40)
	logs := []*pair{
		opens(t, "one", d, 0, 2, 0, 0),
		opens(t, "the next", d, 2, 3, 5, 9),
		opens(t, "a third", d, 5, 3, 0, 0),
		opens(t, "elsewhere", e, 0, 2, 0, 0),
	}
	for n := range 40 {
		for k, p := range logs {
			name := fmt.Sprint(k, " ", n)
			if len(p.m.records) == p.m.many {
				p.dropsTo(t, name, p.l.Base()+uint64(n%2)+1)
			}
			p.appends(t, name, name)
		}
		for k, p := range logs {
			p.alike(t, fmt.Sprint(k))
			p.again(t, fmt.Sprint(k))
		}
		logs[n%4].syncs(t, "one of them")
	}
}

// P10.4

func TestCutAndDropAtTheirEdges(t *testing.T) {
	for base := uint64(0); base < 9; base++ {
		for records := uint64(0); records <= 5; records++ {
			last := base + records
			for _, n := range []uint64{base - 2, base - 1, base, base + 1, base + 2, last - 1, last, last + 1, last + 2, last + 5, 0, 1 << 63, greatest} {
				cutAndDrop(t, base, records, n)
			}
		}
	}
}

// cutAndDrop cuts and drops at n on logs of a base and so many records, and goes on behind it.
func cutAndDrop(t *testing.T, base, records, n uint64) {
	t.Helper()
	name := fmt.Sprintf("%d behind %d, at %d", records, base, n)
	held := n >= base && n <= base+records
	fresh := func() *pair {
		p := opens(t, name, made(t, 7, 40), 1, 5, base, 99)
		for k := range records {
			p.appends(t, name, fmt.Sprint("t", k))
		}
		return p
	}
	p := fresh()
	texts := p.texts()
	if got := p.cuts(t, name, n); got != held {
		t.Errorf("%s: cut: %v", name, got)
	}
	if held {
		stands(t, name+": cut", p.l, base, 99, texts[:n-base]...)
	}
	p.tries(t, name, "behind the cut")

	p = fresh()
	if got := p.drops(t, name, n); got != held {
		t.Errorf("%s: dropped: %v", name, got)
	}
	if held && n > base {
		// The first mark on a new disk is 1, and the record behind the base has it.
		stands(t, name+": dropped", p.l, n, n-base, texts[n-base:]...)
	}
	if n == base {
		stands(t, name+": dropped", p.l, base, 99, texts...)
	}
	p.tries(t, name, "behind the drop")
	p.tries(t, name, "and one more")
}

func TestCutAndDropOnceMore(t *testing.T) {
	p := count(t, 5, 40, 5)
	for _, n := range []uint64{4, 4, 5, 3, 4} {
		p.cuts(t, "cut", n)
	}
	stands(t, "cut", p.l, 0, 0, "old1", "old2", "old3")
	for _, n := range []uint64{1, 1, 0, 2, 1} {
		p.drops(t, "dropped", n)
	}
	stands(t, "dropped", p.l, 2, 2, "old3")
	if p.cuts(t, "below the base", 1) || p.drops(t, "behind the last", 4) {
		t.Error("cut or dropped")
	}
	p.cutsTo(t, "all", 2)
	stands(t, "all cut", p.l, 2, 2)
	p.appends(t, "new", "new")
	stands(t, "new", p.l, 2, 2, "new")
	p.dropsTo(t, "new", 3)
	stands(t, "new is the base", p.l, 3, 6)
}

// What is cut or dropped stands on the disk still: the log finds it when it is opened with the base and mark of before.
func TestCutAndDropWriteNothing(t *testing.T) {
	p := count(t, 5, 40, 5)
	p.cutsTo(t, "cut", 2)
	p.syncs(t, "cut")
	stands(t, "again", p.again(t, "again").l, 0, 0, "old1", "old2", "old3", "old4", "old5")
	p.dropsTo(t, "dropped", 2)
	p.syncs(t, "dropped")
	stands(t, "with its base", p.again(t, "with its base").l, 2, 2, "old3", "old4", "old5")
	stands(t, "with the old base", opens(t, "with the old base", p.d, 2, 5, 0, 0).l, 0, 0, "old1", "old2", "old3", "old4", "old5")
}

// P10.5

// synced are logs behind a Sync, whose sectors are framed or all 0: new ones, some that went round, some with room behind a Drop,
// so that what comes next is written over zeros, or over records that were dropped.
func synced(t *testing.T, many, size int) map[string]func() *pair {
	l := map[string]func() *pair{}
	for _, records := range []int{0, 1, many - 1, many, many + 1, 2*many + 1} {
		for left := 0; left <= min(records, many); left++ {
			l[fmt.Sprintf("%d on %d, %d left", records, many, left)] = func() *pair {
				p := count(t, many, size, records)
				p.dropsTo(t, "left", p.l.Last()-uint64(left))
				return p
			}
		}
	}
	return l
}

// keeps cut each of so many pending writes short after each number of bytes, with the others lost, torn or whole.
func keeps(writes, size int) [][]int {
	var l [][]int
	others := 1
	for range writes - 1 {
		others *= 3
	}
	for k := range writes {
		for cut := 0; cut <= size; cut++ {
			for rest := range others {
				keep := make([]int, writes)
				for i, left := 0, rest; i < writes; i++ {
					if i == k {
						keep[i] = cut
						continue
					}
					keep[i] = []int{0, size / 2, size}[left%3]
					left /= 3
				}
				l = append(l, keep)
			}
		}
	}
	return l
}

// allKeeps cut two writes short after each two numbers of bytes.
func allKeeps(size int) [][]int {
	var l [][]int
	for a := 0; a <= size; a++ {
		for b := 0; b <= size; b++ {
			l = append(l, []int{a, b})
		}
	}
	return l
}

// first tells how many writes are wholly kept ahead of the first one that is not.
func first(keep []int, size int) int {
	k := slices.IndexFunc(keep, func(c int) bool { return c < size })
	if k < 0 {
		return len(keep)
	}
	return k
}

func begins[T comparable](l, front []T) bool {
	return len(l) >= len(front) && slices.Equal(l[:len(front)], front)
}

func TestOpenedAgainBehindASync(t *testing.T) {
	for _, many := range []int{2, 3, 5} {
		for name, lay := range synced(t, many, 40) {
			p := lay()
			q := p.again(t, name)
			stands(t, name, q.l, p.m.base, p.m.mark, p.texts()...)
			for n := range 2 * many {
				if len(q.m.records) == many {
					q.refuses(t, name, "full")
					q.dropsTo(t, name, q.l.Base()+1)
				}
				text := fmt.Sprint("on", n)
				q.appends(t, name+": goes on", text)
				q.syncs(t, name+": goes on")
				q.d.Crash(nil)
				r := q.again(t, name+": and again")
				stands(t, name+": and again", r.l, q.m.base, q.m.mark, q.texts()...)
				tells(t, name+": and again", r.l, r.l.Last(), text, true)
			}
			q.again(t, name).drain(t, name)
		}
	}
}

// crashed is the log as a crash leaves it, whose pending writes went to these sectors one after the other.
func (p *pair) crashed(t *testing.T, name string, at, keep []int) *pair {
	t.Helper()
	now, d := stateOf(p.d), made(t, p.d.Sectors(), p.d.Size())
	for k, s := range now.safe {
		puts(t, d, k, s)
	}
	d.Flush()
	for _, k := range at {
		puts(t, d, k, now.read[k])
	}
	same(t, name+": laid anew", d, now)
	d.Crash(keep)
	return opens(t, name, d, p.m.from, p.m.many, p.m.base, p.m.mark)
}

// further appends texts, and tells the sectors that they lie on.
func (p *pair) further(t *testing.T, name string, texts []string) []int {
	t.Helper()
	var at []int
	for _, s := range texts {
		p.appends(t, name, s)
		at = append(at, p.m.place(p.m.last()))
	}
	return at
}

// survives appends further records to a log behind a Sync, and crashes it in each way that it is told.
func survives(t *testing.T, name string, p *pair, further []string, ways [][]int) {
	t.Helper()
	was := p.texts()
	at := p.further(t, name, further)
	for _, keep := range ways {
		got := p.crashed(t, name, at, keep).texts()
		if !begins(got, was) || !begins(further, got[len(was):]) || len(got)-len(was) < first(keep, p.d.Size()) {
			t.Fatalf("%s: kept %v: %q; want %q and a front of %q", name, keep, got, was, further)
		}
	}
}

func TestACrashLeavesTheSameAndAPrefixOfTheFurther(t *testing.T) {
	for _, many := range []int{2, 3} {
		for name, lay := range synced(t, many, 32) {
			room := many - len(lay().m.records)
			for n := 1; n <= room; n++ {
				further := []string{"new1", "new2", "new3"}[:n]
				survives(t, name, lay(), further, keeps(n, 32))
			}
		}
	}
}

func TestACrashOfTwoRecordsAtEachTwoPlaces(t *testing.T) {
	for name, lay := range synced(t, 2, 32) {
		if len(lay().m.records) == 0 {
			survives(t, name, lay(), []string{"x", "\x00y"}, allKeeps(32))
		}
	}
}

// Marks whose last bytes are alike make a frame whole that a crash cut short: the record counts then, as its frame is there.
func TestACrashWhereMarksAreAlike(t *testing.T) {
	for _, mark := range []uint64{255, 256, 65535, 1<<32 - 1, 1 << 56, 1<<63 - 1} {
		d := made(t, 5, 64)
		lays(t, d, laid{1, mark - 2, said(3, 7, "a")}, laid{2, mark - 1, said(4, mark-2, "b")}, laid{3, mark, said(5, mark-1, "c")})
		p := opens(t, "alike", d, 1, 3, 5, mark)
		survives(t, fmt.Sprint("behind mark ", mark), p, []string{"d", "e", "f"}, keeps(3, 64))
	}
}

// changes cuts records of a log behind a Sync and writes others, and crashes it in each way that it is told; then it syncs it.
func changes(t *testing.T, name string, p *pair, cut uint64, others []string, ways [][]int) {
	t.Helper()
	up := int(cut - p.m.base)
	stay, old := p.texts()[:up], p.texts()[up:]
	p.cutsTo(t, name, cut)
	at := p.further(t, name, others)
	for _, keep := range ways {
		got := p.crashed(t, name, at, keep).texts()
		if !begins(got, stay) || !begins(others, got[up:]) && !begins(old, got[up:]) {
			t.Fatalf("%s: kept %v: %q; want %q and a front of %q or of %q", name, keep, got, stay, others, old)
		}
		if whole := first(keep, p.d.Size()); whole > 0 && !begins(got[up:], others[:whole]) {
			t.Fatalf("%s: kept %v: %q; want %q and the first %d of %q", name, keep, got, stay, whole, others)
		}
	}
	p.syncs(t, name)
	p.d.Crash(nil)
	stands(t, name+": behind a Sync", p.again(t, name).l, p.m.base, p.m.mark, slices.Concat(stay, others)...)
}

func TestCutAndWrittenAnewNeverBoth(t *testing.T) {
	for _, many := range []int{2, 3} {
		for name, lay := range synced(t, many, 32) {
			p := lay()
			for cut := p.m.base; cut <= p.m.last(); cut++ {
				room := many - int(cut-p.m.base)
				for n := 1; n <= room; n++ {
					others := []string{"new1", "new2", "new3"}[:n]
					changes(t, fmt.Sprint(name, ", cut at ", cut), lay(), cut, others, keeps(n, 32))
				}
			}
		}
	}
}

func TestCutAndWrittenAnewAtEachTwoPlaces(t *testing.T) {
	for _, left := range []uint64{1, 2} {
		p := count(t, 3, 32, 5)
		p.dropsTo(t, "left", p.l.Last()-left)
		changes(t, "two", p, p.m.base, []string{"n1", "n2"}, allKeeps(32))
	}
}

// The others may have the texts of those that were cut: their marks tell them apart.
func TestCutAndWrittenAnewWithTheSameTexts(t *testing.T) {
	p := count(t, 3, 32, 3)
	p.cutsTo(t, "same", 1)
	at := p.further(t, "same", []string{"old2", "old3"})
	for _, keep := range allKeeps(32) {
		q := p.crashed(t, "same", at, keep)
		var marks []uint64
		for _, r := range q.m.records {
			marks = append(marks, r.mark)
		}
		q.drain(t, "same")
		if !begins([]uint64{1, 2, 3}, marks) && !begins([]uint64{1, 4, 5}, marks) || len(marks) == 0 {
			t.Errorf("kept %v: marks %v", keep, marks)
		}
	}
}

// Cuts and writes in a row, each behind a Sync of its own: what was cut never comes back.
func TestCutsInARowBehindSyncs(t *testing.T) {
	p := count(t, 5, 40, 5)
	r := rand.New(rand.NewSource(101))
	for n := range 300 {
		name := fmt.Sprint("row ", n)
		if r.Intn(3) == 0 {
			p.dropsTo(t, name, p.l.Base()+uint64(r.Intn(len(p.m.records)+1)))
		}
		p.cutsTo(t, name, p.l.Base()+uint64(r.Intn(len(p.m.records)+1)))
		// Only a full log, of which nothing was cut, has no room for one.
		for k := 0; k == 0 || r.Intn(2) == 0; k++ {
			p.tries(t, name, fmt.Sprint(n, ".", k))
		}
		p.syncs(t, name)
		p.d.Crash(nil)
		q := p.again(t, name)
		stands(t, name, q.l, p.m.base, p.m.mark, p.texts()...)
		p = q
	}
}

// whole tells whether each of the log's sectors is framed or all 0.
func (p *pair) whole() bool {
	for at := p.m.from; at < p.m.from+p.m.many; at++ {
		s, _ := p.d.Safe(at)
		if _, _, ok := unframe(p.d, at); !ok && s != strings.Repeat("\x00", len(s)) {
			return false
		}
	}
	return true
}

// Any number of rounds, each with a Drop, further records and a crash: what was synced stays, and of the further ones a prefix.
func TestRandomRoundsOfCrashes(t *testing.T) {
	r := rand.New(rand.NewSource(102))
	held := 0
	for range 60 {
		many, size := 2+r.Intn(4), 32+r.Intn(9)
		p := opens(t, "new", made(t, many+3, size), r.Intn(4), many, 0, 0)
		for range 60 {
			p.syncs(t, "round")
			whole := p.whole()
			p.dropsTo(t, "round", p.l.Base()+uint64(r.Intn(len(p.m.records)+1)))
			was := p.texts()
			for range r.Intn(many + 2) {
				p.tries(t, "round", randomText(r, size-18))
			}
			further := p.texts()[len(was):]
			keep := make([]int, len(further))
			for i := range keep {
				keep[i] = []int{0, r.Intn(size + 1), size - r.Intn(9), size, size}[r.Intn(5)]
			}
			p.d.Crash(keep)
			q := p.again(t, "round")
			got := q.texts()
			if whole && (!begins(got, was) || !begins(further, got[len(was):]) || len(got)-len(was) < first(keep, size)) {
				t.Fatalf("kept %v: %q; want %q and a front of %q", keep, got, was, further)
			}
			if whole && len(further) > 0 {
				held++
			}
			p = q
		}
	}
	if held < 500 {
		t.Errorf("only %d rounds", held)
	}
}

// The whole of it

// litter is a disk with sectors of all kinds: framed ones whose numbers follow each other or nearly do, torn ones, zeros.
func litter(t *testing.T, r *rand.Rand, sectors, size int) *disk.Disk {
	d := made(t, sectors, size)
	for at := range sectors {
		switch r.Intn(6) {
		case 0:
			puts(t, d, at, randomText(r, size))
		case 1:
			puts(t, d, at, frame(uint64(r.Intn(5)), randomText(r, size-18), size))
		case 2:
			puts(t, d, at, frame(greatest-uint64(r.Intn(40)), said(uint64(r.Intn(9)), uint64(r.Intn(4)), "x"), size))
		case 3, 4:
			puts(t, d, at, frame(uint64(r.Intn(3)+1), said(uint64(r.Intn(9)), uint64(r.Intn(4)), "x"), size))
		}
		if r.Intn(3) == 0 {
			d.Flush()
		}
	}
	return d
}

// Random calls on any disk: each one does what the document's words do, byte by byte.
func TestRandomCalls(t *testing.T) {
	r := rand.New(rand.NewSource(103))
	for range 400 {
		sectors, size := 2+r.Intn(6), 32+r.Intn(9)
		d := litter(t, r, sectors, size)
		many := 2 + r.Intn(sectors-1)
		from := r.Intn(sectors - many + 1)
		p := opens(t, "random", d, from, many, uint64(r.Intn(8)), uint64(r.Intn(4)))
		for range 60 {
			n := p.l.Base() + uint64(r.Intn(many+3)) - 1
			switch r.Intn(12) {
			case 0:
				p.cuts(t, "random", n)
			case 1, 2:
				p.drops(t, "random", n)
			case 3:
				p.syncs(t, "random")
			case 4:
				p = p.again(t, "random")
			case 5:
				p.d.Crash([]int{r.Intn(size + 1), r.Intn(size + 1), size, size})
				p = opens(t, "random", d, from, many, p.l.Base(), p.l.Mark())
			case 6:
				puts(t, d, r.Intn(sectors), randomText(r, size))
			default:
				p.tries(t, "random", randomText(r, size-18))
			}
		}
	}
}

// Arguments of all kinds: each call ends, and none panics.
func TestAnyArguments(t *testing.T) {
	ints := []int{least, least + 1, -1 << 32, -257, -129, -2, -1, 0, 1, 2, 3, 127, 128, 129, 255, 256, 257, 1 << 32, most - 1, most}
	numbers := []uint64{0, 1, 2, 3, 127, 128, 1<<62 - 1, 1 << 62, 1<<62 + 1, 1<<63 - 1, 1 << 63, greatest - 1, greatest}
	d := made(t, 256, 32)
	for _, from := range ints {
		for _, many := range ints {
			for _, n := range numbers {
				there := many >= 2 && many <= 128 && from >= 0 && from < 256 && from+many <= 256 && n <= 1<<62
				l, ok := Open(d, from, many, n, n)
				if ok != there || (l != nil) != there {
					t.Errorf("Open(%d, %d, %d, %d): %v, %v", from, many, n, n, l, ok)
				}
				if !ok {
					continue
				}
				for _, k := range numbers {
					tells(t, "any", l, k, "", false)
					if l.Cut(k) != (k == n) || l.Drop(k) != (k == n) {
						t.Errorf("cut or dropped at %d of %d", k, n)
					}
				}
				if l.Append(strings.Repeat("x", 1<<16)) || d.Pending() != 0 {
					t.Error("appended")
				}
			}
		}
	}
}

// The example of the document.
func TestExample(t *testing.T) {
	l, ok := Open(made(t, 2, 32), 0, 2, 0, 0)
	if !ok || !l.Append("one") || !l.Append("two") || l.Append("three") {
		t.Error("with many 2")
	}
	if !l.Drop(1) || !l.Append("three") {
		t.Error("behind Drop(1)")
	}
	stands(t, "three", l, 1, 1, "two", "three")
}
