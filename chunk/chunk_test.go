package chunk

import (
	"countersign/api"
	"encoding/binary"
	"fmt"
	"math"
	"math/rand"
	"reflect"
	"slices"
	"strings"
	"testing"
)

const (
	past = uint64(1) << 63
	most = uint64(math.MaxUint64)
)

// numbers are ordinary ones, and those at the edges of their encodings.
func numbers() []uint64 {
	l := []uint64{0, 1, 2, 3, 4, 5, 6, 300, past + 1, most - 1, most}
	for bits := 7; bits < 64; bits += 7 {
		l = append(l, 1<<bits-1, 1<<bits)
	}
	return l
}

// encode is a number by the document's words, by the library's encoding in wire's place.
func encode(n uint64) string {
	return string(binary.AppendUvarint(nil, n))
}

// overlong is a number in one byte more than it needs.
func overlong(n uint64) string {
	s := []byte(encode(n))
	s[len(s)-1] |= 128
	return string(s) + "\x00"
}

// kth is an encoder that has another way with the k-th number.
func kth(k int, other func(uint64) string) func(uint64) string {
	seen := -1
	return func(n uint64) string {
		seen++
		if seen == k {
			return other(n)
		}
		return encode(n)
	}
}

// notNumbers are ways to write a number that are no encodings of one.
func notNumbers() []func(uint64) string {
	return []func(uint64) string{
		overlong,
		func(uint64) string { return strings.Repeat("\xff", 9) + "\x02" },
		func(uint64) string { return strings.Repeat("\x80", 12) },
	}
}

// manyNumbers is how many numbers a state's text has.
func manyNumbers(st api.Chunk) int {
	many := 0
	textWith(st, func(n uint64) string { many++; return encode(n) })
	return many
}

// signed is an int as a number, by addition of 2^64 where it is negative.
func signed(n int) uint64 {
	if n >= 0 {
		return uint64(n)
	}
	return most - uint64(-(n + 1))
}

func packWith(c api.Command, enc func(uint64) string) string {
	s := ""
	for _, n := range []uint64{
		signed(c.Do), c.Token.Tenant, c.Token.Volume, c.Token.Epoch, c.Token.Rights, c.Token.Tag, c.Volume, c.Sector, c.A, c.B,
	} {
		s += enc(n)
	}
	return s + enc(uint64(len(c.Leaf))) + c.Leaf
}

func packByHand(c api.Command) string {
	return packWith(c, encode)
}

func textWith(st api.Chunk, enc func(uint64) string) string {
	s := enc(uint64(len(st.Vols)))
	for _, v := range st.Vols {
		s += enc(v.Volume) + enc(v.Tenant) + enc(v.Epoch) + enc(signed(v.Depth)) + enc(uint64(len(v.Leaves)))
		for _, leaf := range v.Leaves {
			s += enc(uint64(len(leaf))) + leaf
		}
	}
	sessions := enc(uint64(len(st.Sessions)))
	for _, r := range st.Sessions {
		sessions += enc(r.Id) + enc(r.Number) + enc(uint64(len(r.Answer))) + r.Answer
	}
	quotas := enc(uint64(len(st.Quotas)))
	for _, r := range st.Quotas {
		quotas += enc(r.Tenant) + enc(r.Used) + enc(r.Limit)
	}
	return s + enc(uint64(len(sessions))) + sessions + enc(uint64(len(quotas))) + quotas
}

func textByHand(st api.Chunk) string {
	return textWith(st, encode)
}

// checkByHand counts what there is of each volume, session and tenant.
func checkByHand(st api.Chunk) bool {
	leaves := map[int]int{0: 1, 1: 2, 2: 4, 3: 8, 4: 16}
	volumes, ids, tenants := map[uint64]int{}, map[uint64]int{}, map[uint64]int{}
	valid := len(st.Vols) <= 8 && len(st.Sessions) <= 16 && len(st.Quotas) <= 16
	for _, v := range st.Vols {
		volumes[v.Volume]++
		many, ok := leaves[v.Depth]
		valid = valid && ok && many == len(v.Leaves) && volumes[v.Volume] < 2
		for _, leaf := range v.Leaves {
			valid = valid && len(leaf) < 65
		}
	}
	for _, r := range st.Sessions {
		ids[r.Id]++
		valid = valid && ids[r.Id] < 2 && len(r.Answer) < 257
	}
	for _, r := range st.Quotas {
		tenants[r.Tenant]++
		valid = valid && tenants[r.Tenant] < 2
	}
	return valid
}

// vol is a volume with these leaves.
func vol(volume, tenant, epoch uint64, depth int, leaves ...string) api.Vol {
	return api.Vol{Volume: volume, Tenant: tenant, Epoch: epoch, Depth: depth, Leaves: leaves}
}

// bare is a volume of so many empty leaves.
func bare(volume uint64, depth, leaves int) api.Vol {
	return vol(volume, volume+10, volume+20, depth, make([]string, leaves)...)
}

// vols is a state of bare volumes with these numbers.
func vols(volumes ...uint64) api.Chunk {
	var st api.Chunk
	for _, n := range volumes {
		st.Vols = append(st.Vols, bare(n, 1, 2))
	}
	return st
}

// upTo is a state of so many bare volumes, whose numbers are 1, 2, ..
func upTo(many int) api.Chunk {
	var st api.Chunk
	for i := range many {
		st.Vols = append(st.Vols, bare(uint64(i)+1, 0, 1))
	}
	return st
}

func sessions(many int) []api.Session {
	var l []api.Session
	for i := range many {
		l = append(l, api.Session{Id: uint64(i) + 50, Number: uint64(i) + 5, Answer: "\x00\x01" + string(rune('a'+i%26))})
	}
	return l
}

func quotas(many int) []api.Quota {
	var l []api.Quota
	for i := range many {
		l = append(l, api.Quota{Tenant: uint64(i) + 60, Used: uint64(i), Limit: 9})
	}
	return l
}

// copyOf is a state of new memory.
func copyOf(st api.Chunk) api.Chunk {
	var c api.Chunk
	for _, v := range st.Vols {
		v.Leaves = append([]string{}, v.Leaves...)
		c.Vols = append(c.Vols, v)
	}
	c.Sessions = append(c.Sessions, st.Sessions...)
	c.Quotas = append(c.Quotas, st.Quotas...)
	return c
}

func sameVol(a, b api.Vol) bool {
	return a.Volume == b.Volume && a.Tenant == b.Tenant && a.Epoch == b.Epoch && a.Depth == b.Depth && slices.Equal(a.Leaves, b.Leaves)
}

func same(a, b api.Chunk) bool {
	return slices.EqualFunc(a.Vols, b.Vols, sameVol) && slices.Equal(a.Sessions, b.Sessions) && slices.Equal(a.Quotas, b.Quotas)
}

// isZero asks for a state that is empty in all parts.
func isZero(st api.Chunk) bool {
	return len(st.Vols) == 0 && len(st.Sessions) == 0 && len(st.Quotas) == 0
}

// brief tells a state, but not all of a long one.
func brief(st api.Chunk) string {
	s := fmt.Sprintf("%d vols, %d sessions, %d quotas: %q", len(st.Vols), len(st.Sessions), len(st.Quotas), fmt.Sprint(st))
	return s[:min(len(s), 500)]
}

// memory is all of what a state's parts lie in.
type memory struct {
	vols     []api.Vol
	leaves   [][]string
	sessions []api.Session
	quotas   []api.Quota
}

// lay lays a state into memory that goes on behind each of its parts, with what a call could take for a part of it.
func lay(st api.Chunk) (api.Chunk, memory) {
	var m memory
	for _, v := range st.Vols {
		whole := append(append([]string{}, v.Leaves...), "", "behind", strings.Repeat("b", 65))
		m.leaves = append(m.leaves, whole)
		v.Leaves = whole[:len(v.Leaves)]
		m.vols = append(m.vols, v)
	}
	m.vols = append(m.vols, bare(1, 1, 2), bare(2, 1, 2), bare(99, 1, 2), bare(0, 1, 2), bare(most, -1, 3))
	m.sessions = append(append(m.sessions, st.Sessions...), api.Session{Id: 1, Number: 5, Answer: "\x07\x01b"}, api.Session{Id: 77, Number: 7})
	m.quotas = append(append(m.quotas, st.Quotas...), api.Quota{Tenant: 7, Used: 0, Limit: 9}, api.Quota{Tenant: 1, Used: 1, Limit: 9})
	given := api.Chunk{Vols: m.vols[:len(st.Vols)], Sessions: m.sessions[:len(st.Sessions)], Quotas: m.quotas[:len(st.Quotas)]}
	return given, m
}

func (m memory) copy() memory {
	var c memory
	for _, v := range m.vols {
		v.Leaves = slices.Clone(v.Leaves)
		c.vols = append(c.vols, v)
	}
	for _, l := range m.leaves {
		c.leaves = append(c.leaves, slices.Clone(l))
	}
	c.sessions, c.quotas = slices.Clone(m.sessions), slices.Clone(m.quotas)
	return c
}

// unchanged runs a call on a state with memory behind each of its parts, and asks that the call changes none of it.
func unchanged(t *testing.T, name string, st api.Chunk, call func(api.Chunk)) {
	t.Helper()
	given, m := lay(st)
	before := m.copy()
	call(given)
	if !reflect.DeepEqual(m, before) {
		t.Errorf("%s changed its state: %v, was %v", name, m, before)
	}
}

// mark overwrites all of a state's memory, each part with a mark of its own, and asks that no part has another one's.
func mark(t *testing.T, name string, st api.Chunk) {
	t.Helper()
	var leaves [][]string
	for _, v := range st.Vols {
		leaves = append(leaves, v.Leaves[:cap(v.Leaves)])
	}
	all, rows, limits := st.Vols[:cap(st.Vols)], st.Sessions[:cap(st.Sessions)], st.Quotas[:cap(st.Quotas)]
	for i := range all {
		all[i] = vol(666, 666, 666, 666, "spoilt")
	}
	for i := range rows {
		rows[i] = api.Session{Id: 666, Number: 666, Answer: "spoilt"}
	}
	for i := range limits {
		limits[i] = api.Quota{Tenant: 666, Used: 666, Limit: 666}
	}
	for i, l := range leaves {
		for k := range l {
			l[k] = fmt.Sprint("spoilt ", i)
		}
	}
	for i, l := range leaves {
		for _, s := range l {
			if s != fmt.Sprint("spoilt ", i) {
				t.Errorf("%s: the leaves of two volumes share memory", name)
			}
		}
	}
}

// checks asks for one answer of Check.
func checks(t *testing.T, name string, st api.Chunk, want bool) {
	t.Helper()
	unchanged(t, "Check", st, func(x api.Chunk) {
		t.Helper()
		if got := Check(x); got != want {
			t.Errorf("%s: Check %v, want %v: %s", name, got, want, brief(st))
		}
	})
}

func tells(t *testing.T, name string, st api.Chunk, want string) {
	t.Helper()
	unchanged(t, "Text", st, func(x api.Chunk) {
		t.Helper()
		if got := Text(x); got != want {
			t.Errorf("%s: %.300q, want %.300q", name, got, want)
		}
	})
}

func parses(t *testing.T, name, s string, want api.Chunk) api.Chunk {
	t.Helper()
	got, ok := Parse(s)
	if !same(got, want) || !ok {
		t.Errorf("%s: %s, %v; want %s, true", name, brief(got), ok, brief(want))
	}
	mark(t, name, got)
	got, _ = Parse(s)
	if !same(got, want) {
		t.Errorf("%s: asked again %s, want %s", name, brief(got), brief(want))
	}
	return got
}

func noState(t *testing.T, name, s string) {
	t.Helper()
	if got, ok := Parse(s); !isZero(got) || ok {
		t.Errorf("%s: %s, %v; want no state, false: %.100q", name, brief(got), ok, s)
	}
}

func packs(t *testing.T, c api.Command, want string) {
	t.Helper()
	if got := Pack(c); got != want {
		t.Errorf("Pack of %.200q: %.300q, want %.300q", fmt.Sprint(c), got, want)
	}
}

func unpacks(t *testing.T, s string, want api.Command) {
	t.Helper()
	if got, ok := Unpack(s); got != want || !ok {
		t.Errorf("Unpack of %.200q: %.300q, %v; want %.300q, true", s, fmt.Sprint(got), ok, fmt.Sprint(want))
	}
}

func noCommand(t *testing.T, name, s string) {
	t.Helper()
	if got, ok := Unpack(s); got != (api.Command{}) || ok {
		t.Errorf("%s: %.300q, %v; want no command, false: %.100q", name, fmt.Sprint(got), ok, s)
	}
}

// fields are a command's numbers behind Do, in the order of the document.
type fields [9]uint64

func (n fields) command(do int, leaf string) api.Command {
	t := api.Token{Tenant: n[0], Volume: n[1], Epoch: n[2], Rights: n[3], Tag: n[4]}
	return api.Command{Do: do, Token: t, Volume: n[5], Sector: n[6], A: n[7], B: n[8], Leaf: leaf}
}

func leafTexts() []string {
	return []string{
		"", "a", "\x00", "\xff\xfe", "leaf", strings.Repeat("x", 64), strings.Repeat("y", 65), strings.Repeat("\x00", 127),
		strings.Repeat("z", 128), strings.Repeat("\xff", 300), strings.Repeat("m", 70000),
	}
}

// commandsOf are commands at the edges of each field.
func commandsOf(do int) []api.Command {
	l := []api.Command{{Do: do}, fields{1, 2, 3, 4, 5, 6, 7, 8, 9}.command(do, "leaf"), fields{most, most, most, most, most, most, most, most, most}.command(do, "\xff")}
	for at := range 9 {
		for _, v := range numbers() {
			n := fields{1, 2, 3, 4, 5, 6, 7, 8, 9}
			n[at] = v
			l = append(l, n.command(do, "l"))
		}
	}
	for _, leaf := range leafTexts() {
		l = append(l, fields{200, 2, 3, 4, 5, 6, 7, 8, 9}.command(do, leaf))
	}
	return l
}

// P13.1: Pack and Unpack

func TestPackIsTheFieldsInTheirOrder(t *testing.T) {
	packs(t, api.Command{}, strings.Repeat("\x00", 11))
	packs(t, fields{1, 2, 3, 4, 5, 6, 7, 8, 9}.command(3, "ab"), "\x03\x01\x02\x03\x04\x05\x06\x07\x08\x09\x02ab")
	packs(t, api.Command{Do: 5}, "\x05"+strings.Repeat("\x00", 10))
	for at := range 9 {
		var n fields
		n[at] = 300
		packs(t, n.command(0, ""), strings.Repeat("\x00", at+1)+"\xac\x02"+strings.Repeat("\x00", 9-at))
	}
	packs(t, api.Command{Leaf: "x"}, strings.Repeat("\x00", 10)+"\x01x")
	packs(t, api.Command{Leaf: strings.Repeat("x", 65)}, strings.Repeat("\x00", 10)+"\x41"+strings.Repeat("x", 65))
	packs(t, api.Command{Leaf: strings.Repeat("x", 64)}, strings.Repeat("\x00", 10)+"\x40"+strings.Repeat("x", 64))
	packs(t, api.Command{Leaf: strings.Repeat("x", 300)}, strings.Repeat("\x00", 10)+"\xac\x02"+strings.Repeat("x", 300))
}

func TestPackOfAnyDo(t *testing.T) {
	rest := strings.Repeat("\x00", 10)
	packs(t, api.Command{Do: -1}, strings.Repeat("\xff", 9)+"\x01"+rest)
	packs(t, api.Command{Do: -2}, "\xfe"+strings.Repeat("\xff", 8)+"\x01"+rest)
	packs(t, api.Command{Do: math.MinInt}, strings.Repeat("\x80", 9)+"\x01"+rest)
	packs(t, api.Command{Do: math.MaxInt}, strings.Repeat("\xff", 8)+"\x7f"+rest)
	packs(t, api.Command{Do: 6}, "\x06"+rest)
	packs(t, api.Command{Do: 300}, "\xac\x02"+rest)
	for _, do := range []int{-1, -2, -6, -128, math.MinInt, math.MinInt + 1, 0, 1, 2, 3, 4, 5, 6, 7, 127, 128, math.MaxInt} {
		for _, c := range commandsOf(do) {
			packs(t, c, packByHand(c))
		}
	}
}

func TestUnpackOfPack(t *testing.T) {
	for do := range 6 {
		for _, c := range commandsOf(do) {
			unpacks(t, packByHand(c), c)
			unpacks(t, Pack(c), c)
		}
	}
}

func TestUnpackOfOtherDos(t *testing.T) {
	for _, do := range []int{6, 7, 8, 127, 128, 256, 256 + 3, 1<<32 + 3, math.MaxInt, -1, -2, -5, math.MinInt, math.MinInt + 3} {
		for _, c := range commandsOf(do) {
			noCommand(t, "another Do", packByHand(c))
		}
	}
}

func TestUnpackOfACutText(t *testing.T) {
	noCommand(t, "empty", "")
	for do := range 7 {
		for _, c := range []api.Command{{Do: do}, fields{1, 2, 3, 4, 5, 6, 7, 8, 9}.command(do, "leaf"), fields{most, 300, most, 300, most, 300, most, 300, most}.command(do, strings.Repeat("l", 200))} {
			s := packByHand(c)
			for n := range len(s) {
				noCommand(t, "cut", s[:n])
			}
			for _, more := range []string{"\x00", "\x01", "a", "\xff", s} {
				noCommand(t, "more", s+more)
			}
		}
	}
}

func TestUnpackOfANumberThatIsTooLong(t *testing.T) {
	for _, c := range []api.Command{{}, fields{1, 2, 3, 4, 5, 6, 7, 8, 9}.command(3, "leaf"), fields{127, 128, 300, 0, most, 1, 0, 0, 5}.command(5, strings.Repeat("l", 128))} {
		for k := range 11 {
			for _, other := range notNumbers() {
				noCommand(t, "no number", packWith(c, kth(k, other)))
			}
		}
	}
}

func TestUnpackOfALengthThatIsTooGreat(t *testing.T) {
	head := "\x03" + strings.Repeat("\x00", 9)
	unpacks(t, head+"\x02ab", api.Command{Do: 3, Leaf: "ab"})
	for _, n := range []uint64{3, 4, 128, 1 << 31, 1 << 32, past - 1, past, past + 2, most - 1, most} {
		noCommand(t, "length", head+encode(n)+"ab")
		noCommand(t, "length alone", head+encode(n))
	}
	noCommand(t, "less", head+"\x01ab")
	noCommand(t, "none", head+"\x00ab")
}

// What is unpacked from any bytes is a command whose Pack they are.
func TestUnpackOfRandomBytes(t *testing.T) {
	r := rand.New(rand.NewSource(131))
	taken := 0
	from := commandsOf(3)[:200]
	for range 20000 {
		s := []byte(packByHand(from[r.Intn(len(from))]))
		for range 1 + r.Intn(3) {
			s[r.Intn(len(s))] = byte([]int{0, 1, 2, 5, 6, 127, 128, 255}[r.Intn(8)])
		}
		c, ok := Unpack(string(s))
		if ok && (packByHand(c) != string(s) || c.Do < 0 || c.Do > 5) || !ok && c != (api.Command{}) {
			t.Fatalf("%q: %v, %v", s, c, ok)
		}
		if ok {
			taken++
		}
	}
	if taken < 1000 {
		t.Errorf("only %d were commands", taken)
	}
}

// P13.1: Check

func TestCheckOfManyVolumes(t *testing.T) {
	for many := range 30 {
		checks(t, fmt.Sprint(many, " volumes"), upTo(many), many <= 8)
	}
	checks(t, "the zero state", api.Chunk{}, true)
	checks(t, "empty parts", api.Chunk{Vols: []api.Vol{}, Sessions: []api.Session{}, Quotas: []api.Quota{}}, true)
}

func TestCheckOfAVolumeTwice(t *testing.T) {
	for _, st := range []api.Chunk{vols(1, 1), vols(0, 0), vols(most, most), vols(1, 1, 2), vols(2, 1, 1), vols(1, 2, 1), vols(1, 2, 3, 4, 5, 6, 7, 1), vols(1, 1, 1)} {
		checks(t, "twice", st, false)
	}
	for i := range 8 {
		for j := range i {
			st := upTo(8)
			st.Vols[i].Volume = st.Vols[j].Volume
			checks(t, "twice", st, false)
		}
	}
	// The same numbers in other fields, and volumes that differ in a high bit alone, are no volume twice.
	checks(t, "others", api.Chunk{Vols: []api.Vol{vol(1, 7, 7, 0, "a"), vol(2, 7, 7, 0, "a")}}, true)
	for bits := range 64 {
		checks(t, "a bit", vols(5, 5^1<<bits), true)
	}
}

func TestCheckOfADepth(t *testing.T) {
	want := map[int]int{0: 1, 1: 2, 2: 4, 3: 8, 4: 16}
	depths := []int{-1, -2, -60, -63, -64, -65, math.MinInt, 0, 1, 2, 3, 4, 5, 6, 8, 31, 32, 62, 63, 64, 65, 256, math.MaxInt}
	for _, depth := range depths {
		for many := range 40 {
			st := api.Chunk{Vols: []api.Vol{bare(1, depth, many)}}
			checks(t, fmt.Sprint("depth ", depth, " leaves ", many), st, want[depth] == many && many > 0)
			st = vols(5, 6, 7)
			st.Vols[1] = bare(1, depth, many)
			checks(t, fmt.Sprint("depth ", depth, " leaves ", many), st, want[depth] == many && many > 0)
		}
		checks(t, "64", api.Chunk{Vols: []api.Vol{bare(1, depth, 64)}}, false)
		checks(t, "32", api.Chunk{Vols: []api.Vol{bare(1, depth, 32)}}, false)
	}
}

func TestCheckOfALeaf(t *testing.T) {
	for depth := range 5 {
		for at := range 1 << depth {
			for _, long := range []int{0, 1, 63, 64, 65, 66, 128, 255, 256, 257, 1000} {
				st := vols(8, 9)
				st.Vols = append(st.Vols, bare(1, depth, 1<<depth))
				st.Vols[2].Leaves[at] = strings.Repeat("x", long)
				checks(t, fmt.Sprint("leaf of ", long), st, long <= 64)
			}
		}
	}
}

func TestCheckOfSessionsAndQuotas(t *testing.T) {
	for many := range 20 {
		checks(t, "sessions", api.Chunk{Sessions: sessions(many)}, many <= 16)
		checks(t, "quotas", api.Chunk{Quotas: quotas(many)}, many <= 16)
	}
	for long := 250; long < 260; long++ {
		checks(t, "an answer", api.Chunk{Sessions: []api.Session{{Answer: strings.Repeat("a", long)}}}, long <= 256)
	}
	st := upTo(8)
	st.Sessions, st.Quotas = sessions(16), quotas(16)
	checks(t, "full", st, true)
	st.Sessions[15].Id = st.Sessions[0].Id
	checks(t, "a session twice", st, false)
	st.Sessions, st.Quotas[15].Tenant = sessions(16), st.Quotas[0].Tenant
	checks(t, "a tenant twice", st, false)
}

// P13.1: Text and Parse

func TestTextOfEachField(t *testing.T) {
	tells(t, "zero", api.Chunk{}, "\x00\x01\x00\x01\x00")
	tells(t, "a volume", api.Chunk{Vols: []api.Vol{vol(1, 2, 3, 1, "a", "")}}, "\x01\x01\x02\x03\x01\x02\x01a\x00\x01\x00\x01\x00")
	tells(t, "two", api.Chunk{Vols: []api.Vol{vol(300, 2, 3, 0, "ab"), vol(4, 5, 128, 0, "")}}, "\x02\xac\x02\x02\x03\x00\x01\x02ab\x04\x05\x80\x01\x00\x01\x00\x01\x00\x01\x00")
	tells(t, "a session", api.Chunk{Sessions: []api.Session{{Id: 1, Number: 2, Answer: "a"}}}, "\x00\x05\x01\x01\x02\x01a\x01\x00")
	tells(t, "a quota", api.Chunk{Quotas: []api.Quota{{Tenant: 1, Used: 2, Limit: 3}}}, "\x00\x01\x00\x04\x01\x01\x02\x03")
	tells(t, "all", api.Chunk{Vols: []api.Vol{vol(1, 2, 3, 0, "l")}, Sessions: []api.Session{{Id: 4, Number: 5, Answer: "a"}}, Quotas: []api.Quota{{Tenant: 6, Used: 7, Limit: 8}}},
		"\x01\x01\x02\x03\x00\x01\x01l\x05\x01\x04\x05\x01a\x04\x01\x06\x07\x08")
	tells(t, "a negative depth", api.Chunk{Vols: []api.Vol{vol(1, 2, 3, -1)}}, "\x01\x01\x02\x03"+strings.Repeat("\xff", 9)+"\x01\x00\x01\x00\x01\x00")
	tells(t, "the least depth", api.Chunk{Vols: []api.Vol{vol(1, 2, 3, math.MinInt)}}, "\x01\x01\x02\x03"+strings.Repeat("\x80", 9)+"\x01\x00\x01\x00\x01\x00")
	tells(t, "another depth", api.Chunk{Vols: []api.Vol{vol(1, 2, 3, 300, "a")}}, "\x01\x01\x02\x03\xac\x02\x01\x01a\x01\x00\x01\x00")
}

// rowsText is the text of a state without volumes, with texts in the places of those of sessions and quotas.
func rowsText(sessions, quotas string) string {
	return "\x00" + encode(uint64(len(sessions))) + sessions + encode(uint64(len(quotas))) + quotas
}

// validStates are such at each edge of what is valid.
func validStates() []api.Chunk {
	l := []api.Chunk{{}, {Vols: []api.Vol{}, Sessions: []api.Session{}, Quotas: []api.Quota{}}, fullState()}
	for many := range 9 {
		l = append(l, upTo(many))
	}
	for depth := range 5 {
		st := api.Chunk{Vols: []api.Vol{bare(1, depth, 1<<depth)}, Sessions: sessions(depth), Quotas: quotas(depth)}
		st.Vols[0].Leaves[0], st.Vols[0].Leaves[1<<depth-1] = "first", strings.Repeat("l", 64)
		l = append(l, st)
	}
	for _, n := range numbers() {
		st := api.Chunk{Vols: []api.Vol{vol(n, 1, 2, 0, "a"), vol(n+1, n, 1, 1, "", "b"), vol(n+2, 1, n, 0, "")}}
		l = append(l, st, api.Chunk{Sessions: []api.Session{{Id: n, Number: n, Answer: "x"}}, Quotas: []api.Quota{{Tenant: n, Used: n, Limit: n}}})
	}
	for many := range 17 {
		l = append(l, api.Chunk{Sessions: sessions(many)}, api.Chunk{Quotas: quotas(many)}, api.Chunk{Vols: upTo(1).Vols, Sessions: sessions(many), Quotas: quotas(16 - many)})
	}
	return l
}

// fullState has as much of everything as a valid state may have.
func fullState() api.Chunk {
	st := api.Chunk{Sessions: sessions(16), Quotas: quotas(16)}
	for i := range 8 {
		v := vol(most-uint64(i), most, most, 4)
		for k := range 16 {
			v.Leaves = append(v.Leaves, strings.Repeat(string(rune('a'+k)), 64))
		}
		st.Vols = append(st.Vols, v)
	}
	for i := range st.Sessions {
		st.Sessions[i] = api.Session{Id: most - uint64(i), Number: most, Answer: strings.Repeat("a", 256)}
		st.Quotas[i] = api.Quota{Tenant: most - uint64(i), Used: most, Limit: most}
	}
	return st
}

// invalidStates are such in each of the ways that the document names, just beyond the edge.
func invalidStates() []api.Chunk {
	l := []api.Chunk{upTo(9), upTo(10), upTo(200), vols(1, 1), vols(1, 2, 1), vols(0, 0), {Sessions: sessions(17)}, {Quotas: quotas(17)}, {Sessions: sessions(300), Quotas: quotas(300)}}
	for depth := -1; depth < 7; depth++ {
		for _, many := range []int{0, 1, 2, 3, 4, 5, 7, 8, 9, 15, 16, 17, 31, 32, 33, 64} {
			if depth < 0 || depth > 4 || many != 1<<depth {
				l = append(l, api.Chunk{Vols: []api.Vol{bare(1, depth, many)}}, api.Chunk{Vols: []api.Vol{bare(3, 0, 1), bare(1, depth, many), bare(2, 0, 1)}})
			}
		}
	}
	for _, depth := range []int{math.MinInt, -2, 63, 64, 256, 1 << 32, math.MaxInt} {
		l = append(l, api.Chunk{Vols: []api.Vol{bare(1, depth, 1)}}, api.Chunk{Vols: []api.Vol{bare(1, depth, 0)}})
	}
	for depth := range 5 {
		st := api.Chunk{Vols: []api.Vol{bare(1, depth, 1<<depth)}}
		st.Vols[0].Leaves[1<<depth-1] = strings.Repeat("l", 65)
		l = append(l, st)
	}
	st := copyOf(fullState())
	st.Sessions[7].Answer += "a"
	l = append(l, st)
	st = copyOf(fullState())
	st.Sessions[15].Id = st.Sessions[0].Id
	l = append(l, st)
	st = copyOf(fullState())
	st.Quotas[15].Tenant = st.Quotas[0].Tenant
	return append(l, st)
}

func TestTextAndCheckOfAnyState(t *testing.T) {
	for _, st := range validStates() {
		tells(t, "valid", st, textByHand(st))
		checks(t, "valid", st, true)
		if !checkByHand(st) {
			t.Fatal("not valid:", brief(st))
		}
	}
	for _, st := range invalidStates() {
		tells(t, "not valid", st, textByHand(st))
		checks(t, "not valid", st, false)
		if checkByHand(st) {
			t.Fatal("valid:", brief(st))
		}
	}
}

func TestParseOfText(t *testing.T) {
	for _, st := range validStates() {
		parses(t, "by hand", textByHand(st), st)
		parses(t, "by Text", Text(st), st)
	}
	for _, st := range invalidStates() {
		noState(t, "not valid", textByHand(st))
		noState(t, "not valid", Text(st))
	}
}

func TestParseOfACutText(t *testing.T) {
	noState(t, "empty", "")
	for _, st := range validStates() {
		s := textByHand(st)
		for n := range len(s) {
			noState(t, "cut", s[:n])
		}
		for _, more := range []string{"\x00", "\x01", "a", "\xff", s} {
			noState(t, "more", s+more)
		}
	}
}

// someState has a little of everything.
func someState() api.Chunk {
	return api.Chunk{
		Vols:     []api.Vol{vol(1, 7, 3, 1, "", "leaf"), vol(200, 8, 0, 0, ""), vol(2, 7, 300, 2, "a", "", "c", strings.Repeat("d", 64))},
		Sessions: []api.Session{{Id: 5, Number: 9, Answer: "\x00\x01x"}, {Id: 6, Number: 1, Answer: ""}},
		Quotas:   []api.Quota{{Tenant: 7, Used: 4, Limit: 9}, {Tenant: 9, Used: 0, Limit: 0}},
	}
}

func TestParseOfANumberThatIsTooLong(t *testing.T) {
	for _, st := range []api.Chunk{{}, someState(), upTo(8), {Sessions: sessions(16)}, {Quotas: quotas(16)}} {
		for k := range manyNumbers(st) {
			for _, other := range notNumbers() {
				noState(t, "no number", textWith(st, kth(k, other)))
			}
		}
	}
}

// Each number of a text is made another one: what is parsed then is a valid state with this text, or nothing.
func TestParseOfOtherNumbers(t *testing.T) {
	taken := 0
	for _, st := range []api.Chunk{someState(), upTo(8), {Sessions: sessions(3), Quotas: quotas(3)}} {
		for k := range manyNumbers(st) {
			for _, n := range append(numbers(), 8, 9, 15, 16, 17, 64, 65, 1<<31, 1<<32) {
				s := textWith(st, kth(k, func(uint64) string { return encode(n) }))
				got, ok := Parse(s)
				if ok && (!checkByHand(got) || textByHand(got) != s) || !ok && !isZero(got) {
					t.Errorf("%.300q: %s, %v", s, brief(got), ok)
				}
				if ok {
					taken++
				}
			}
		}
	}
	if taken < 500 {
		t.Errorf("only %d were states", taken)
	}
}

func TestParseOfCountsThatAreTooGreat(t *testing.T) {
	for _, n := range []uint64{1, 2, 9, 17, 128, 1 << 20, 1 << 31, 1 << 32, past - 1, past, past + 1, most - 1, most} {
		noState(t, "volumes alone", encode(n))
		noState(t, "volumes", encode(n)+"\x01\x00\x01\x00")
		noState(t, "leaves", "\x01\x01\x02\x03\x00"+encode(n)+"\x01\x00\x01\x00")
		noState(t, "leaves of no volume", "\x01\x01\x02\x03\x04"+encode(n))
		noState(t, "a leaf", "\x01\x01\x02\x03\x00\x01"+encode(n)+"\x01\x00\x01\x00")
		noState(t, "sessions' text", "\x00"+encode(n)+"\x00")
		noState(t, "sessions", rowsText(encode(n), "\x00"))
		noState(t, "quotas' text", "\x00\x01\x00"+encode(n))
		noState(t, "quotas", rowsText("\x00", encode(n)))
		noState(t, "depth", "\x01\x01\x02\x03"+encode(n)+"\x01\x00\x01\x00\x01\x00")
	}
	for _, s := range []string{strings.Repeat("\x00", 100), strings.Repeat("\x01", 1000), strings.Repeat("\x08", 1<<20), strings.Repeat("\xff", 1<<20), "\x00" + strings.Repeat("\x7f", 1<<20)} {
		noState(t, "any bytes", s)
	}
}

// The texts of sessions and quotas must be whole, each within its own length.
func TestParseOfRowsThatAreNotWhole(t *testing.T) {
	one, two := "\x01\x01\x02\x01a", "\x01\x01\x02\x03"
	parses(t, "whole", rowsText(one, two), api.Chunk{Sessions: []api.Session{{Id: 1, Number: 2, Answer: "a"}}, Quotas: []api.Quota{{Tenant: 1, Used: 2, Limit: 3}}})
	for _, s := range []string{"", one + "\x00", one[:4], "\x02" + one[1:], "\x00\x00", one + one} {
		noState(t, "sessions", rowsText(s, two))
	}
	for _, s := range []string{"", two + "\x00", two[:3], "\x02" + two[1:], "\x00\x00", two + two} {
		noState(t, "quotas", rowsText(one, s))
	}
	noState(t, "one alone", "\x00\x01\x00")
	noState(t, "without lengths", "\x00\x00\x00")
	noState(t, "changed places", rowsText(two, one))
	noState(t, "three", rowsText(one, two)+"\x01\x00")
}

// Random states, and random bytes of their texts made others.
func TestParseOfRandomTexts(t *testing.T) {
	r := rand.New(rand.NewSource(132))
	taken := 0
	for range 6000 {
		s := []byte(textByHand(someState()))
		for range 1 + r.Intn(2) {
			s[r.Intn(len(s))] = byte([]int{0, 1, 2, 4, 16, 64, 128, 255, r.Intn(256)}[r.Intn(9)])
		}
		got, ok := Parse(string(s))
		if ok && (!checkByHand(got) || textByHand(got) != string(s)) || !ok && !isZero(got) {
			t.Fatalf("%q: %s, %v", s, brief(got), ok)
		}
		if ok {
			taken++
		}
	}
	if taken < 1000 {
		t.Errorf("only %d were states", taken)
	}
}
