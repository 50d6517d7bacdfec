package msg

import (
	"countersign/api"
	"countersign/wire"
	"encoding/binary"
	"math"
	"math/rand"
	"slices"
	"strconv"
	"strings"
	"testing"
)

// form is what the document says of a kind, written out once more.
type form struct {
	kind, nums, least, most int
}

func forms() []form {
	return []form{{0, 4, 0, 0}, {1, 3, 0, 0}, {2, 5, 0, 64}, {3, 4, 0, 0}, {4, 4, 1, 1}, {5, 3, 0, 0}, {6, 2, 1, 1}, {7, 3, 1, 1}}
}

func edges() []uint64 {
	return []uint64{0, 1, 2, 127, 128, 300, 16383, 16384, math.MaxInt64, math.MaxUint64 - 1, math.MaxUint64}
}

// someNums are n numbers, beginning at an edge.
func someNums(n, from int) []uint64 {
	var l []uint64
	for i := range n {
		l = append(l, edges()[(from+i)%len(edges())])
	}
	return l
}

func someTexts(n, from int) []string {
	all := []string{"", "\x00", "a", "ab", "\xff\x80", "\x02ab", strings.Repeat("x", 127), strings.Repeat("y", 128)}
	var l []string
	for i := range n {
		l = append(l, all[(from+i)%len(all)])
	}
	return l
}

// messages are valid ones of each kind, with the fewest texts and the most.
func messages() []api.Msg {
	var l []api.Msg
	for _, f := range forms() {
		for _, texts := range []int{f.least, (f.least + f.most + 1) / 2, f.most} {
			for from := range edges() {
				l = append(l, api.Msg{Kind: f.kind, Nums: someNums(f.nums, from), Texts: someTexts(texts, from)})
			}
		}
	}
	return l
}

// expected is the encoding by another hand than the program's.
func expected(m api.Msg) string {
	b := binary.AppendUvarint(nil, uint64(m.Kind))
	for _, n := range m.Nums {
		b = binary.AppendUvarint(b, n)
	}
	b = binary.AppendUvarint(b, uint64(len(m.Texts)))
	for _, s := range m.Texts {
		b = append(binary.AppendUvarint(b, uint64(len(s))), s...)
	}
	return string(b)
}

func same(a, b api.Msg) bool {
	return a.Kind == b.Kind && slices.Equal(a.Nums, b.Nums) && slices.Equal(a.Texts, b.Texts)
}

func isZero(m api.Msg) bool {
	return m.Kind == 0 && len(m.Nums) == 0 && len(m.Texts) == 0
}

// refuses asks for one error of Check and of Encode, and for nothing beside it.
func refuses(t *testing.T, name string, m api.Msg, want api.Errno) {
	t.Helper()
	if e := Check(m); e != want {
		t.Errorf("%s: Check: %v, want %v", name, e, want)
	}
	if s, e := Encode(m); e != want || s != "" {
		t.Errorf("%s: Encode: %d bytes, %v, want %v", name, len(s), e, want)
	}
}

func rejects(t *testing.T, name, s string, want api.Errno) {
	t.Helper()
	if m, e := Decode(s); e != want || !isZero(m) {
		t.Errorf("%s: Decode: %v, %v, want %v", name, m, e, want)
	}
}

// accepts asks for P2.1's OK, P2.2's bytes, and P2.3's way back.
func accepts(t *testing.T, name string, m api.Msg) {
	t.Helper()
	if e := Check(m); e != api.OK {
		t.Errorf("%s: Check: %v", name, e)
	}
	s, e := Encode(m)
	if e != api.OK || s != expected(m) {
		t.Errorf("%s: Encode: %d bytes, %v", name, len(s), e)
	}
	back, e := Decode(expected(m))
	if e != api.OK || !same(back, m) {
		t.Errorf("%s: Decode: %v", name, e)
	}
}

// P2.1, P2.2, P2.3: ordinary messages of each kind, and the document's example.
func TestMessagesOfEachKind(t *testing.T) {
	for i, m := range messages() {
		accepts(t, strconv.Itoa(i), m)
	}
	s, e := Encode(api.Msg{Kind: api.MsgSnapped, Nums: []uint64{1, 2, 300}})
	if s != "\x05\x01\x02\xac\x02\x00" || e != api.OK {
		t.Errorf("%q, %v", s, e)
	}
}

// The kinds' numbers are the document's.
func TestKindsHaveTheirNumbers(t *testing.T) {
	names := []int{api.MsgVote, api.MsgVoted, api.MsgAppend, api.MsgAppended, api.MsgSnap, api.MsgSnapped, api.MsgAsk, api.MsgAnswer}
	for i, f := range forms() {
		s, e := Encode(api.Msg{Kind: names[i], Nums: make([]uint64, f.nums), Texts: make([]string, f.least)})
		want := string(rune(f.kind)) + strings.Repeat("\x00", f.nums) + string(rune(f.least)) + strings.Repeat("\x00", f.least)
		if s != want || e != api.OK {
			t.Errorf("kind %d: %q, %v", i, s, e)
		}
	}
}

// P2.1: each number of Nums and of Texts but the kind's own is refused.
func TestCountsOfNumsAndTexts(t *testing.T) {
	for _, f := range forms() {
		for nums := range 8 {
			for texts := range api.MaxMany + 3 {
				name := "kind " + strconv.Itoa(f.kind) + ", " + strconv.Itoa(nums) + " nums, " + strconv.Itoa(texts) + " texts"
				m := api.Msg{Kind: f.kind, Nums: make([]uint64, nums), Texts: make([]string, texts)}
				if nums == f.nums && texts >= f.least && texts <= f.most {
					accepts(t, name, m)
					continue
				}
				refuses(t, name, m, api.ErrMsgForm)
				// With another count of numbers the bytes may mean another message of the kind: a list's count is a number too.
				if nums == f.nums {
					rejects(t, name, expected(m), api.ErrMsgForm)
				}
			}
		}
	}
}

// P2.1: no such kind; this is told ahead of what else is wrong.
func TestKindsThatThereAreNot(t *testing.T) {
	for _, k := range []int{-1, 8, 9, 127, 128, 256, 1 << 32, math.MaxInt, math.MinInt, math.MinInt + 5} {
		refuses(t, strconv.Itoa(k), api.Msg{Kind: k}, api.ErrMsgKind)
		refuses(t, strconv.Itoa(k), api.Msg{Kind: k, Nums: []uint64{1, 2, 3}, Texts: []string{strings.Repeat("x", 1<<17)}}, api.ErrMsgKind)
	}
	// 1<<32 and 1<<63 end in bits that are a kind's.
	for _, k := range []uint64{8, 9, 127, 128, 256 + 5, 1<<32 + 5, 1<<63 + 5, math.MaxUint64} {
		s := wire.PutUint(k)
		rejects(t, "only the kind", s, api.ErrMsgKind)
		rejects(t, "a snapped's rest", s+"\x01\x02\x03\x00", api.ErrMsgKind)
		rejects(t, "bytes left over", s+"\x01\x02\x03\x00\xff", api.ErrMsgKind)
	}
}

// P2.1: a wrong form is told ahead of too many bytes.
func TestFormAheadOfLength(t *testing.T) {
	long := strings.Repeat("x", api.MaxWire+1)
	refuses(t, "a text too many", api.Msg{Kind: api.MsgAsk, Nums: []uint64{1, 2}, Texts: []string{long, ""}}, api.ErrMsgForm)
	refuses(t, "a number too few", api.Msg{Kind: api.MsgAsk, Nums: []uint64{1}, Texts: []string{long}}, api.ErrMsgForm)
	refuses(t, "65 texts", api.Msg{Kind: api.MsgAppend, Nums: make([]uint64, 5), Texts: append(make([]string, 64), long)}, api.ErrMsgForm)
	refuses(t, "nothing but too long", api.Msg{Kind: api.MsgAsk, Nums: []uint64{1, 2}, Texts: []string{long}}, api.ErrMsgLong)
	refuses(t, "many numbers", api.Msg{Kind: api.MsgVote, Nums: make([]uint64, api.MaxWire)}, api.ErrMsgForm)
	refuses(t, "many texts", api.Msg{Kind: api.MsgAppend, Nums: make([]uint64, 5), Texts: make([]string, api.MaxWire)}, api.ErrMsgForm)
}

// padded is m with its last text so long that the encoding has size bytes.
func padded(t *testing.T, m api.Msg, size int) api.Msg {
	t.Helper()
	m.Texts = slices.Clone(m.Texts)
	last := len(m.Texts) - 1
	m.Texts[last] = ""
	m.Texts[last] = strings.Repeat("x", size-len(expected(m))-2) // a length of 16384 to 65536 takes three bytes
	if len(expected(m)) != size {
		t.Fatalf("a message of %d bytes, not of %d", len(expected(m)), size)
	}
	return m
}

// P2.1, P2.2: an encoding of just 65536 bytes, and of one more and one less, of each kind that can be so long.
func TestLengthOfTheEncoding(t *testing.T) {
	for _, f := range forms() {
		for _, texts := range []int{f.least, f.most} {
			for from := range edges() {
				if texts == 0 {
					continue
				}
				m := api.Msg{Kind: f.kind, Nums: someNums(f.nums, from), Texts: someTexts(texts, from)}
				accepts(t, "65535", padded(t, m, api.MaxWire-1))
				accepts(t, "65536", padded(t, m, api.MaxWire))
				over := padded(t, m, api.MaxWire+1)
				refuses(t, "65537", over, api.ErrMsgLong)
				rejects(t, "65537", expected(over), api.ErrMsgLong)
			}
		}
	}
}

// P2.1: many texts that are one and the same long one are counted, not laid out.
func TestLongTextsAreCounted(t *testing.T) {
	long := strings.Repeat("x", 1<<26)
	m := api.Msg{Kind: api.MsgAppend, Nums: make([]uint64, 5)}
	for range api.MaxMany {
		m.Texts = append(m.Texts, long)
	}
	refuses(t, "64 texts of 64 MiB", m, api.ErrMsgLong)
	refuses(t, "one text of 64 MiB", api.Msg{Kind: api.MsgSnap, Nums: make([]uint64, 4), Texts: m.Texts[:1]}, api.ErrMsgLong)
}

// P2.2: too many bytes are told ahead of whatever else is wrong with them.
func TestDecodeTellsLengthFirst(t *testing.T) {
	for _, first := range []string{"", "\x80\x00", "\xff\xff\xff\xff\xff\xff\xff\xff\xff\xff", "\x08", "\x05\x01\x02\x03\x00"} {
		rejects(t, "one more", first+strings.Repeat("\x80", api.MaxWire+1-len(first)), api.ErrMsgLong)
	}
	rejects(t, "no number in 65536 bytes", strings.Repeat("\x80", api.MaxWire), api.ErrMsgForm)
	rejects(t, "no kind in 65536 bytes", "\x08"+strings.Repeat("\x00", api.MaxWire-1), api.ErrMsgKind)
	rejects(t, "left over in 65536 bytes", "\x05"+strings.Repeat("\x00", api.MaxWire-1), api.ErrMsgForm)
}

// P2.2: s does not begin with the encoding of a number, even of a number that would be no kind.
func TestDecodeOfNoNumber(t *testing.T) {
	for _, s := range []string{"", "\x80", "\x85\x00", "\x85\x80\x00\x01\x02\x03\x00", "\x88\x00", "\xff", "\xff\xff\xff\xff\xff\xff\xff\xff\xff\x02", "\x80\x80\x80\x80\x80\x80\x80\x80\x80\x80\x01"} {
		rejects(t, strconv.Quote(s), s, api.ErrMsgForm)
	}
}

// P2.2, P2.3: what is cut short is no message; neither is what has a byte left over.
func TestTruncatedAndLeftOver(t *testing.T) {
	for _, m := range messages() {
		s := expected(m)
		for n := range len(s) {
			rejects(t, strconv.Quote(s[:n]), s[:n], api.ErrMsgForm)
		}
		for _, more := range []string{"\x00", "\x01", "z", "\x80", "\xff\xff", s} {
			rejects(t, strconv.Quote(s+more), s+more, api.ErrMsgForm)
		}
	}
}

// P2.2, P2.3: a number with more bytes than it needs, at each place where a number stands.
func TestNumbersWithTooManyBytes(t *testing.T) {
	for _, f := range forms() {
		m := api.Msg{Kind: f.kind, Nums: make([]uint64, f.nums), Texts: make([]string, f.least)}
		s := expected(m)
		for i := range len(s) { // each byte of s is a number of its own
			long := s[:i] + string([]byte{s[i] + 128, 0}) + s[i+1:]
			rejects(t, strconv.Quote(long), long, api.ErrMsgForm)
			longer := s[:i] + string([]byte{s[i] + 128, 128, 0}) + s[i+1:]
			rejects(t, strconv.Quote(longer), longer, api.ErrMsgForm)
			big := s[:i] + "\xff\xff\xff\xff\xff\xff\xff\xff\xff\x02" + s[i+1:]
			rejects(t, strconv.Quote(big), big, api.ErrMsgForm)
		}
	}
}

// P2.2: counts and lengths that the bytes don't bear out.
func TestFalseCounts(t *testing.T) {
	most := wire.PutUint(math.MaxUint64)
	for _, s := range []string{
		"\x06\x01\x02\x00", "\x06\x01\x02\x02\x00\x00", "\x06\x01\x02" + most, "\x06\x01\x02\x01" + most,
		"\x06\x01\x02\x01\x02x", "\x06\x01\x02\x01\x01xy", "\x05\x01\x02\x03\x01\x00", "\x00\x01\x02\x03\x04" + most,
		"\x02\x01\x02\x03\x04\x05" + most, "\x02\x01\x02\x03\x04\x05\x41" + strings.Repeat("\x00", 65), "\x02\x01\x02\x03\x04\x05\x02\x00",
	} {
		rejects(t, strconv.Quote(s), s, api.ErrMsgForm)
	}
}

// P2.3: whatever short bytes Decode takes, Encode gives back, and no two messages have the same ones.
func TestShortBytesHaveOneMessage(t *testing.T) {
	bytes := "\x00\x01\x02\x05\x06\x08\x7f\x80\xff"
	var try func(s string, left int)
	taken := 0
	try = func(s string, left int) {
		m, e := Decode(s)
		if e == api.OK {
			taken++
			if back, e := Encode(m); back != s || e != api.OK || Check(m) != api.OK {
				t.Fatalf("%q: %v, encoded as %q, %v", s, m, back, e)
			}
		} else if !isZero(m) {
			t.Fatalf("%q: %v beside %v", s, m, e)
		}
		for i := 0; left > 0 && i < len(bytes); i++ {
			try(s+bytes[i:i+1], left-1)
		}
	}
	try("", 6)
	if taken == 0 {
		t.Error("no message among them")
	}
}

// P2.3, R1: bytes of all sorts; half of them are messages with one byte changed.
func TestChangedBytes(t *testing.T) {
	r := rand.New(rand.NewSource(2))
	all := messages()
	for range 20000 {
		b := []byte(expected(all[r.Intn(len(all))]))
		if r.Intn(2) == 0 {
			b = b[:r.Intn(len(b)+1)]
		}
		if len(b) > 0 {
			b[r.Intn(len(b))] = byte(r.Intn(256))
		}
		m, e := Decode(string(b))
		if e != api.OK && !isZero(m) {
			t.Fatalf("%q: %v beside %v", b, m, e)
		}
		if e != api.OK {
			continue
		}
		if s, e := Encode(m); s != string(b) || e != api.OK {
			t.Fatalf("%q: %v, encoded as %q, %v", b, m, s, e)
		}
	}
}

// P2.3: different messages have different encodings, even where only the place of a byte differs.
func TestDifferentMessagesDiffer(t *testing.T) {
	five := make([]uint64, 5)
	l := []api.Msg{
		{Kind: api.MsgAppend, Nums: five}, {Kind: api.MsgAppend, Nums: five, Texts: []string{""}},
		{Kind: api.MsgAppend, Nums: five, Texts: []string{"", ""}}, {Kind: api.MsgAppend, Nums: five, Texts: []string{"\x00"}},
		{Kind: api.MsgAppend, Nums: five, Texts: []string{"ab"}}, {Kind: api.MsgAppend, Nums: five, Texts: []string{"a", "b"}},
		{Kind: api.MsgAppend, Nums: five, Texts: []string{"ab", ""}}, {Kind: api.MsgAppend, Nums: five, Texts: []string{"", "ab"}},
		{Kind: api.MsgVote, Nums: five[:4]}, {Kind: api.MsgAppended, Nums: five[:4]},
		{Kind: api.MsgVoted, Nums: five[:3]}, {Kind: api.MsgSnapped, Nums: five[:3]},
		{Kind: api.MsgVoted, Nums: []uint64{0, 0, 128}}, {Kind: api.MsgVoted, Nums: []uint64{0, 128, 0}},
	}
	l = append(l, messages()...)
	seen := map[string]api.Msg{}
	for _, m := range l {
		s, e := Encode(m)
		if other, ok := seen[s]; e != api.OK || ok && !same(m, other) {
			t.Errorf("%v and %v: %q, %v", m, other, s, e)
		}
		seen[s] = m
	}
}

// R4: arguments stay as they are, and what is decoded is new memory each time.
func TestArgumentsAndResultsAreApart(t *testing.T) {
	m := api.Msg{Kind: api.MsgAppend, Nums: []uint64{1, 2, 3, 4, 5}, Texts: []string{"a", "b"}}
	nums, texts := append([]uint64(nil), m.Nums...), append([]string(nil), m.Texts...)
	s, _ := Encode(m)
	if Check(m) != api.OK || !slices.Equal(m.Nums, nums) || !slices.Equal(m.Texts, texts) {
		t.Errorf("changed: %v", m)
	}
	a, _ := Decode(s)
	b, _ := Decode(s)
	a.Nums[0], a.Texts[0] = 9, "z"
	if !same(b, m) {
		t.Errorf("%v", b)
	}
	if again, _ := Decode(s); !same(again, m) {
		t.Errorf("%v", again)
	}
}

// R5: empty lists and nil ones are the same.
func TestEmptyAndNilLists(t *testing.T) {
	a := api.Msg{Kind: api.MsgVoted, Nums: []uint64{1, 2, 3}}
	b := api.Msg{Kind: api.MsgVoted, Nums: []uint64{1, 2, 3}, Texts: []string{}}
	x, e := Encode(a)
	y, f := Encode(b)
	if x != y || e != api.OK || f != api.OK {
		t.Errorf("%q, %v; %q, %v", x, e, y, f)
	}
	refuses(t, "nil", api.Msg{Kind: api.MsgAsk}, api.ErrMsgForm)
	refuses(t, "empty", api.Msg{Kind: api.MsgAsk, Nums: []uint64{}, Texts: []string{}}, api.ErrMsgForm)
	refuses(t, "the zero message", api.Msg{}, api.ErrMsgForm)
}
