package ideal

import (
	"countersign/api"
	"math"
	"math/rand"
	"slices"
	"strconv"
	"strings"
	"testing"
)

const past = uint64(1) << 63

// row is a query of a table of the model, and the value that it got.
type row struct {
	table, value uint64
	key, nonce   uint64
	a, b         string
}

// model is an oracle by the document's words, one after the other: lists that are gone through, and no maps.
type model struct {
	draws, issued, met []uint64
	rows               []row
	bad                bool
}

func (m *model) draw() uint64 {
	k := len(m.issued)
	v := past + uint64(k)
	if k < len(m.draws) {
		v = m.draws[k]
	}
	if v == 0 || slices.Contains(m.issued, v) || slices.Contains(m.met, v) {
		m.bad = true
	}
	m.issued = append(m.issued, v)
	return v
}

func (m *model) query(q row) uint64 {
	for _, r := range m.rows {
		q.value = r.value
		if q == r {
			return r.value
		}
	}
	q.value = m.draw()
	m.rows = append(m.rows, q)
	return q.value
}

// find returns the first query that agrees with q in all but b, unless b is asked for too.
func (m *model) find(q row, all bool) (row, bool) {
	for _, r := range m.rows {
		if !all {
			q.b = r.b
		}
		if q == r {
			return r, true
		}
	}
	return row{}, false
}

func (m *model) meet(h uint64) {
	if !slices.Contains(m.issued, h) {
		m.met = append(m.met, h)
	}
}

func (m *model) do(c api.Call) (uint64, string, bool) {
	switch c.Do {
	case 0:
		return m.draw(), "", true
	case 1:
		return m.query(row{table: 1, a: c.A}), "", true
	case 2:
		return m.query(row{table: 2, key: c.Key, a: c.A}), "", true
	case 3:
		_, ok := m.find(row{table: 2, value: c.H, key: c.Key, a: c.A}, true)
		if !ok {
			m.meet(c.H)
		}
		return 0, "", ok
	case 4:
		return m.query(row{table: 3, key: c.Key, nonce: c.Nonce, a: c.A, b: c.B}), "", true
	case 5:
		r, ok := m.find(row{table: 3, value: c.H, key: c.Key, nonce: c.Nonce, a: c.A}, false)
		if !ok {
			m.meet(c.H)
		}
		return 0, r.b, ok
	case 6:
		m.meet(c.H)
	}
	return 0, "", false
}

// directly executes c by the oracle's methods themselves, as the document pairs them with numbers.
func directly(o *Oracle, c api.Call) (uint64, string, bool) {
	switch c.Do {
	case 0:
		return o.Fresh(), "", true
	case 1:
		return o.Hash(c.A), "", true
	case 2:
		return o.Mac(c.Key, c.A), "", true
	case 3:
		return 0, "", o.Verify(c.Key, c.A, c.H)
	case 4:
		return o.Seal(c.Key, c.Nonce, c.A, c.B), "", true
	case 5:
		text, ok := o.Open(c.Key, c.Nonce, c.A, c.H)
		return 0, text, ok
	case 6:
		o.Meet(c.H)
	}
	return 0, "", false
}

// state asks for what an oracle tells of itself.
func state(t *testing.T, name string, o *Oracle, drawn int, bad bool) {
	t.Helper()
	if o.Drawn() != drawn || o.Bad() != bad {
		t.Errorf("%s: %d drawn, bad %v; want %d, %v", name, o.Drawn(), o.Bad(), drawn, bad)
	}
}

func number(t *testing.T, name string, got, want uint64) {
	t.Helper()
	if got != want {
		t.Errorf("%s: %d, want %d", name, got, want)
	}
}

// opens asks Open for a plain text, or for nothing beside false.
func opens(t *testing.T, name string, o *Oracle, key, nonce uint64, ad string, c uint64, plain string, ok bool) {
	t.Helper()
	if s, got := o.Open(key, nonce, ad, c); s != plain || got != ok {
		t.Errorf("%s: %q, %v; want %q, %v", name, s, got, plain, ok)
	}
}

func verifies(t *testing.T, name string, o *Oracle, key uint64, text string, tag uint64, ok bool) {
	t.Helper()
	if o.Verify(key, text, tag) != ok {
		t.Errorf("%s: Verify: not %v", name, ok)
	}
}

// does asks Do for its three results.
func does(t *testing.T, name string, o *Oracle, c api.Call, n uint64, s string, ok bool) {
	t.Helper()
	if gotN, gotS, gotOk := o.Do(c); gotN != n || gotS != s || gotOk != ok {
		t.Errorf("%s: %d, %q, %v; want %d, %q, %v", name, gotN, gotS, gotOk, n, s, ok)
	}
}

// P3.1

// A new oracle has drawn nothing; the values are those of draws, in their order, then 2^63 and the number of those drawn.
func TestFreshTakesTheDrawsInOrder(t *testing.T) {
	for _, draws := range [][]uint64{nil, {}, {5}, {7, 9}, {math.MaxUint64, 1, past - 1}} {
		o := New(draws)
		state(t, "new", o, 0, false)
		for k := range 6 {
			want := past + uint64(k)
			if k < len(draws) {
				want = draws[k]
			}
			number(t, strconv.Itoa(k)+" of "+strconv.Itoa(len(draws)), o.Fresh(), want)
			state(t, "fresh", o, k+1, false)
		}
	}
}

func TestHashAskedOnceAndAgain(t *testing.T) {
	o := New([]uint64{7, 9})
	number(t, "a", o.Hash("a"), 7)
	number(t, "b", o.Hash("b"), 9)
	number(t, "a again", o.Hash("a"), 7)
	number(t, "b again", o.Hash("b"), 9)
	state(t, "two texts", o, 2, false)
	number(t, "fresh", o.Fresh(), past+2)
	number(t, "empty", o.Hash(""), past+3)
	number(t, "empty again", o.Hash(""), past+3)
	number(t, "no utf-8", o.Hash("\xff"), past+4)
	number(t, "no other utf-8", o.Hash("\xfe"), past+5)
	number(t, "a zero byte", o.Hash("\x00"), past+6)
	number(t, "a with a zero byte", o.Hash("a\x00"), past+7)
	state(t, "all", o, 8, false)
}

func TestMacAskedOnceAndAgain(t *testing.T) {
	o := New([]uint64{7, 9, 11})
	for range 3 {
		number(t, "1 a", o.Mac(1, "a"), 7)
		number(t, "2 a", o.Mac(2, "a"), 9)
		number(t, "1 b", o.Mac(1, "b"), 11)
		number(t, "0, empty", o.Mac(0, ""), past+3)
		number(t, "the last key", o.Mac(math.MaxUint64, ""), past+4)
		state(t, "mac", o, 5, false)
	}
}

// Each of the four arguments makes another query, and so does a byte that goes over from the one text to the other.
func TestSealAskedOnceAndAgain(t *testing.T) {
	o := New([]uint64{7, 9})
	for range 3 {
		number(t, "first", o.Seal(1, 2, "ad", "plain"), 7)
		number(t, "key", o.Seal(2, 2, "ad", "plain"), 9)
		number(t, "nonce", o.Seal(1, 1, "ad", "plain"), past+2)
		number(t, "key and nonce", o.Seal(2, 1, "ad", "plain"), past+3)
		number(t, "ad", o.Seal(1, 2, "da", "plain"), past+4)
		number(t, "plain", o.Seal(1, 2, "ad", "plane"), past+5)
		number(t, "a byte over", o.Seal(1, 2, "adp", "lain"), past+6)
		number(t, "ad and plain", o.Seal(1, 2, "plain", "ad"), past+7)
		number(t, "empty", o.Seal(0, 0, "", ""), past+8)
		state(t, "seal", o, 9, false)
	}
}

// The three tables are apart: what one was asked, another was not.
func TestTablesAreApart(t *testing.T) {
	o := New([]uint64{3, 4, 5})
	for range 2 {
		number(t, "hash", o.Hash("x"), 3)
		number(t, "mac", o.Mac(0, "x"), 4)
		number(t, "seal", o.Seal(0, 0, "x", ""), 5)
		number(t, "seal of x", o.Seal(0, 0, "", "x"), past+3)
	}
	state(t, "four", o, 4, false)
}

// P3.2

func TestVerify(t *testing.T) {
	o := New([]uint64{7, 9})
	verifies(t, "ahead of Mac", o, 1, "x", 5, false)
	verifies(t, "0 ahead of Mac", o, 1, "x", 0, false)
	state(t, "nothing asked", o, 0, false)
	number(t, "mac", o.Mac(1, "x"), 7)
	number(t, "mac", o.Mac(1, "y"), 9)
	for range 2 {
		verifies(t, "x", o, 1, "x", 7, true)
		verifies(t, "y", o, 1, "y", 9, true)
		verifies(t, "another key", o, 2, "x", 7, false)
		verifies(t, "another text", o, 1, "z", 7, false)
		verifies(t, "no text", o, 1, "", 7, false)
		verifies(t, "the other's tag", o, 1, "x", 9, false)
		verifies(t, "never issued", o, 1, "x", 8, false)
		verifies(t, "0", o, 1, "x", 0, false)
	}
	state(t, "two", o, 2, false)
}

// A value of another table is no tag, even for the same text.
func TestVerifyOfAnotherTable(t *testing.T) {
	o := New(nil)
	h, c, f := o.Hash("x"), o.Seal(1, 0, "x", ""), o.Fresh()
	for _, v := range []uint64{h, c, f} {
		verifies(t, "ahead of Mac", o, 1, "x", v, false)
	}
	m := o.Mac(1, "x")
	for _, v := range []uint64{h, c, f} {
		verifies(t, "after Mac", o, 1, "x", v, false)
	}
	verifies(t, "the tag", o, 1, "x", m, true)
	state(t, "all were issued", o, 4, false)
}

func TestOpen(t *testing.T) {
	o := New([]uint64{7, 9})
	opens(t, "ahead of Seal", o, 1, 2, "ad", 5, "", false)
	opens(t, "0 ahead of Seal", o, 1, 2, "ad", 0, "", false)
	state(t, "nothing asked", o, 0, false)
	number(t, "seal", o.Seal(1, 2, "ad", "plain"), 7)
	number(t, "seal", o.Seal(1, 2, "ad", ""), 9)
	for range 2 {
		opens(t, "plain", o, 1, 2, "ad", 7, "plain", true)
		opens(t, "the empty text", o, 1, 2, "ad", 9, "", true)
		opens(t, "another key", o, 2, 2, "ad", 7, "", false)
		opens(t, "another nonce", o, 1, 1, "ad", 7, "", false)
		opens(t, "key and nonce", o, 2, 1, "ad", 7, "", false)
		opens(t, "another ad", o, 1, 2, "ae", 7, "", false)
		opens(t, "no ad", o, 1, 2, "", 7, "", false)
		opens(t, "never issued", o, 1, 2, "ad", 8, "", false)
		opens(t, "0", o, 1, 2, "ad", 0, "", false)
	}
	state(t, "two", o, 2, false)
}

// A value of another table does not open.
func TestOpenOfAnotherTable(t *testing.T) {
	o := New(nil)
	h, m, f := o.Hash("ad"), o.Mac(1, "ad"), o.Fresh()
	c := o.Seal(1, 2, "ad", "plain")
	for _, v := range []uint64{h, m, f} {
		opens(t, "another table", o, 1, 2, "ad", v, "", false)
	}
	opens(t, "the sealed value", o, 1, 2, "ad", c, "plain", true)
	state(t, "all were issued", o, 4, false)
}

// Two plain texts with one sealed value: the first one is opened, whichever was asked again since.
func TestOpenOfTwoPlainTexts(t *testing.T) {
	for _, plains := range [][]string{{"first", "second"}, {"second", "first"}, {"", "x"}, {"x", ""}, {"b", "a", "c"}} {
		o := New([]uint64{7, 7, 7})
		for range 2 {
			for _, p := range plains {
				number(t, p, o.Seal(1, 2, "ad", p), 7)
				opens(t, "of two", o, 1, 2, "ad", 7, plains[0], true)
			}
		}
		state(t, "of two", o, len(plains), true)
	}
}

// One sealed value under two ads, nonces or keys opens to the plain text of each.
func TestOpenOfOneValueOfTwoQueries(t *testing.T) {
	o := New([]uint64{7, 7, 7, 7})
	o.Seal(1, 2, "ad", "a")
	o.Seal(1, 2, "da", "b")
	o.Seal(1, 3, "ad", "c")
	o.Seal(2, 2, "ad", "d")
	opens(t, "first", o, 1, 2, "ad", 7, "a", true)
	opens(t, "ad", o, 1, 2, "da", 7, "b", true)
	opens(t, "nonce", o, 1, 3, "ad", 7, "c", true)
	opens(t, "key", o, 2, 2, "ad", 7, "d", true)
	opens(t, "none of them", o, 2, 3, "ad", 7, "", false)
}

// A drawn 0 is a value all the same: a tag 0 verifies, a sealed 0 opens, and both are returned again.
func TestZeroIsAValue(t *testing.T) {
	o := New([]uint64{0, 0, 0})
	for range 2 {
		number(t, "hash", o.Hash("x"), 0)
		number(t, "mac", o.Mac(1, "x"), 0)
		number(t, "seal", o.Seal(1, 2, "ad", "plain"), 0)
	}
	verifies(t, "0", o, 1, "x", 0, true)
	verifies(t, "0 of another text", o, 1, "y", 0, false)
	opens(t, "0", o, 1, 2, "ad", 0, "plain", true)
	opens(t, "0 of another nonce", o, 1, 1, "ad", 0, "", false)
	state(t, "zeros", o, 3, true)
}

// What is refused is met, so that a draw of it is a bad event; what is accepted, or was issued, is not.
func TestWhatIsRefusedIsMet(t *testing.T) {
	presents := map[string]func(o *Oracle, h uint64){
		"tag of no query":    func(o *Oracle, h uint64) { o.Verify(1, "x", h) },
		"tag of a query":     func(o *Oracle, h uint64) { o.Verify(1, "asked", h) },
		"sealed of no query": func(o *Oracle, h uint64) { o.Open(1, 2, "ad", h) },
		"sealed of a query":  func(o *Oracle, h uint64) { o.Open(1, 2, "asked", h) },
		"met":                func(o *Oracle, h uint64) { o.Meet(h) },
	}
	for name, present := range presents {
		for _, h := range []uint64{1, 8, past - 1, math.MaxUint64, past + 4} {
			o := New([]uint64{5, 6, 7, h})
			if h == past+4 {
				o = New([]uint64{5, 6, 7, 8}) // the draw after them is the one that was met
			}
			o.Mac(1, "asked")
			o.Seal(1, 2, "asked", "plain")
			present(o, h)
			o.Fresh()
			state(t, name, o, 3, false)
			o.Fresh()
			o.Fresh()
			state(t, name+", then drawn", o, 5, true)
		}
	}
}

// P3.3

func TestMeetAheadOfADraw(t *testing.T) {
	draws := map[string]func(o *Oracle) uint64{
		"fresh": func(o *Oracle) uint64 { return o.Fresh() },
		"hash":  func(o *Oracle) uint64 { return o.Hash("a") },
		"mac":   func(o *Oracle) uint64 { return o.Mac(1, "a") },
		"seal":  func(o *Oracle) uint64 { return o.Seal(1, 2, "ad", "a") },
	}
	for name, draw := range draws {
		for _, list := range [][]uint64{{7}, {7, 9}, {past}, nil} {
			v := past
			if len(list) > 0 {
				v = list[0]
			}
			o := New(list)
			o.Meet(v)
			o.Meet(v)
			state(t, name+" ahead", o, 0, false)
			number(t, name, draw(o), v)
			state(t, name, o, 1, true)
		}
	}
}

// A value that is met after it was issued is nothing.
func TestMeetAfterADraw(t *testing.T) {
	o := New([]uint64{7})
	o.Hash("a")
	for _, h := range []uint64{7, 7, 0, 8} {
		o.Meet(h)
	}
	o.Verify(1, "a", 7)
	o.Open(1, 2, "ad", 7)
	number(t, "again", o.Hash("a"), 7)
	state(t, "met after", o, 1, false)
	o.Fresh()
	state(t, "the next one", o, 2, false)
}

func TestBadDraws(t *testing.T) {
	for _, c := range []struct {
		draws []uint64
		good  int // how many draws go by without a bad event
	}{
		{nil, 5}, {[]uint64{1, 2, 3, 4, 5}, 5}, {[]uint64{past + 4, past + 3}, 3}, {[]uint64{past + 1}, 1},
		{[]uint64{past, past + 1}, 5}, {[]uint64{0}, 0}, {[]uint64{1, 0}, 1}, {[]uint64{7, 7}, 1}, {[]uint64{7, 8, 9, 7}, 3},
		{[]uint64{7, 8, 8, 7}, 2}, {[]uint64{math.MaxUint64, past - 1, math.MaxUint64}, 2}, {[]uint64{past}, 5},
	} {
		o := New(c.draws)
		for k := range 5 {
			o.Fresh()
			state(t, strconv.Itoa(len(c.draws))+" draws", o, k+1, k >= c.good)
		}
	}
}

// A draw of one table that was issued by another is bad as well.
func TestDrawnBeforeByAnotherTable(t *testing.T) {
	draws := []func(o *Oracle) uint64{
		func(o *Oracle) uint64 { return o.Fresh() },
		func(o *Oracle) uint64 { return o.Hash("a") },
		func(o *Oracle) uint64 { return o.Mac(1, "a") },
		func(o *Oracle) uint64 { return o.Seal(1, 2, "a", "") },
	}
	for i, first := range draws {
		for j, second := range draws {
			if i == j && i > 0 {
				continue // the same query once more draws nothing
			}
			o := New([]uint64{7, 7})
			number(t, "first", first(o), 7)
			state(t, "first", o, 1, false)
			number(t, "second", second(o), 7)
			state(t, "second", o, 2, true)
		}
	}
}

// After a bad event the oracle goes on, and the event stays.
func TestBadStays(t *testing.T) {
	o := New([]uint64{0, 5, 6})
	number(t, "bad", o.Hash("a"), 0)
	number(t, "b", o.Hash("b"), 5)
	number(t, "mac", o.Mac(1, "x"), 6)
	number(t, "past", o.Fresh(), past+3)
	number(t, "a again", o.Hash("a"), 0)
	verifies(t, "tag", o, 1, "x", 6, true)
	state(t, "bad", o, 4, true)
}

// P3.4

func TestDoOfEachCall(t *testing.T) {
	o := New([]uint64{7, 9, 11, 13})
	all := api.Call{Key: 1, Nonce: 2, H: 3, A: "a", B: "b"}
	call := func(do int, h uint64) api.Call {
		c := all
		c.Do, c.H = do, h
		return c
	}
	does(t, "fresh", o, call(0, 3), 7, "", true)
	for range 2 {
		does(t, "hash", o, call(1, 3), 9, "", true)
		does(t, "mac", o, call(2, 3), 11, "", true)
		does(t, "verify", o, call(3, 11), 0, "", true)
		does(t, "verify of no tag", o, call(3, 9), 0, "", false)
		does(t, "seal", o, call(4, 3), 13, "", true)
		does(t, "open", o, call(5, 13), 0, "b", true)
		does(t, "open of no sealed value", o, call(5, 11), 0, "", false)
		does(t, "meet", o, call(6, 13), 0, "", false)
	}
	does(t, "fresh", o, call(0, 3), past+4, "", true)
	number(t, "hash", o.Hash("a"), 9)
	number(t, "mac", o.Mac(1, "a"), 11)
	number(t, "seal", o.Seal(1, 2, "a", "b"), 13)
	state(t, "all", o, 5, false)
}

// The api's names stand for these numbers.
func TestDoHasItsNumbers(t *testing.T) {
	for i, do := range []int{api.DoFresh, api.DoHash, api.DoMac, api.DoVerify, api.DoSeal, api.DoOpen, api.DoMeet, api.Dos} {
		if i != do {
			t.Errorf("%d: %d", i, do)
		}
	}
}

// A sealed empty text opens: the empty string beside true.
func TestDoOpensTheEmptyText(t *testing.T) {
	o := New(nil)
	does(t, "seal", o, api.Call{Do: api.DoSeal}, past, "", true)
	does(t, "open", o, api.Call{Do: api.DoOpen, H: past}, 0, "", true)
}

// A drawn 0 stands beside true, unlike the 0 of a missing result.
func TestDoReturnsADrawnZero(t *testing.T) {
	for _, do := range []int{api.DoFresh, api.DoHash, api.DoMac, api.DoSeal} {
		o := New([]uint64{0})
		does(t, strconv.Itoa(do), o, api.Call{Do: do}, 0, "", true)
		state(t, strconv.Itoa(do), o, 1, true)
	}
}

// What Do refuses or meets is met: a draw of it is bad.
func TestDoMeets(t *testing.T) {
	for _, do := range []int{api.DoVerify, api.DoOpen, api.DoMeet} {
		o := New([]uint64{3})
		does(t, strconv.Itoa(do), o, api.Call{Do: do, Key: 1, A: "a", H: 3}, 0, "", false)
		does(t, "fresh", o, api.Call{}, 3, "", true)
		state(t, strconv.Itoa(do), o, 1, true)
	}
}

// Any other number names no call: nothing is drawn, nothing met.
func TestDoOfNoCall(t *testing.T) {
	for _, do := range []int{-1, -7, 7, 8, 9, 128, 256, 258, 1 << 32, 1<<32 + 1, math.MaxInt, math.MinInt, math.MinInt + 1} {
		o := New([]uint64{3})
		does(t, strconv.Itoa(do), o, api.Call{Do: do, Key: 1, Nonce: 2, H: 3, A: "a", B: "b"}, 0, "", false)
		state(t, strconv.Itoa(do), o, 0, false)
		number(t, "fresh", o.Fresh(), 3)
		state(t, strconv.Itoa(do), o, 1, false)
	}
}

// P3.5

// Without a bad event, all that many different queries got are different numbers, and asked again they are the same.
func TestWithoutABadEventAllDiffer(t *testing.T) {
	texts := []string{"", "\x00", "a", "b", "ab", "\xff", strings.Repeat("x", 1000)}
	ask := func(o *Oracle) []uint64 {
		var l []uint64
		for _, a := range texts {
			l = append(l, o.Hash(a))
			for key := range uint64(3) {
				l = append(l, o.Mac(key, a))
				for nonce := range uint64(3) {
					for _, b := range texts {
						l = append(l, o.Seal(key, nonce, a, b))
					}
				}
			}
		}
		return l
	}
	draws := []uint64{3, 2, 1, math.MaxUint64}
	o := New(draws)
	first := ask(o)
	drawn := o.Drawn()
	if drawn != len(first) || o.Bad() {
		t.Errorf("%d queries: %d drawn, bad %v", len(first), drawn, o.Bad())
	}
	if again := ask(o); !slices.Equal(again, first) || o.Drawn() != drawn {
		t.Error("asked again: other values, or more draws")
	}
	sorted := slices.Clone(append(first, o.Fresh()))
	slices.Sort(sorted)
	if len(slices.Compact(sorted)) != len(first)+1 || o.Bad() {
		t.Error("a value stands twice")
	}
}

// Without a bad event, a sealed value opens by its own key, nonce and ad alone, a tag by its own key and text alone.
func TestWithoutABadEventOnlyTheOwnOpens(t *testing.T) {
	texts := []string{"", "a", "b", "ab"}
	o := New(nil)
	type query struct {
		key, nonce uint64
		ad         string
	}
	sealed, tags := map[query]uint64{}, map[query]uint64{}
	for key := range uint64(3) {
		for _, ad := range texts {
			tags[query{key, 0, ad}] = o.Mac(key, ad)
			for nonce := range uint64(3) {
				sealed[query{key, nonce, ad}] = o.Seal(key, nonce, ad, "plain")
			}
		}
	}
	for q, c := range sealed {
		for other := range sealed {
			_, ok := o.Open(other.key, other.nonce, other.ad, c)
			if ok != (other == q) {
				t.Errorf("sealed with %v, opened with %v: %v", q, other, ok)
			}
			if other.nonce == 0 && o.Verify(other.key, other.ad, c) {
				t.Errorf("sealed with %v, a tag for %v", q, other)
			}
		}
	}
	for q, tag := range tags {
		for other := range sealed {
			if _, ok := o.Open(other.key, other.nonce, other.ad, tag); ok {
				t.Errorf("a tag for %v, opened with %v", q, other)
			}
			if other.nonce == 0 && o.Verify(other.key, other.ad, tag) != (other == q) {
				t.Errorf("a tag for %v, presented for %v", q, other)
			}
		}
	}
	state(t, "all were issued", o, len(sealed)+len(tags), false)
}

// P3.1 to P3.5: long runs of calls of all sorts, against the model, with and without bad events.
func TestAsTheModel(t *testing.T) {
	r := rand.New(rand.NewSource(3))
	texts := []string{"", "a", "b", "ab", "\x00"}
	bads := 0
	for run := range 3000 {
		draws := make([]uint64, r.Intn(12))
		for i := range draws {
			draws[i] = uint64(r.Intn(60))
			if r.Intn(10) == 0 {
				draws[i] = past + uint64(r.Intn(20))
			}
		}
		o, m := New(draws), &model{draws: draws}
		for range 40 {
			c := api.Call{Do: r.Intn(9) - 1, Key: uint64(r.Intn(2)), Nonce: uint64(r.Intn(2)), A: texts[r.Intn(len(texts))], B: texts[r.Intn(len(texts))]}
			c.H = uint64(r.Intn(60))
			if len(m.issued) > 0 && r.Intn(4) > 0 {
				c.H = m.issued[r.Intn(len(m.issued))]
			}
			n, s, ok := m.do(c)
			do := (*Oracle).Do
			if run%2 == 1 {
				do = directly
			}
			if gotN, gotS, gotOk := do(o, c); gotN != n || gotS != s || gotOk != ok {
				t.Fatalf("%v: %d, %q, %v; want %d, %q, %v", c, gotN, gotS, gotOk, n, s, ok)
			}
			if o.Bad() != m.bad || o.Drawn() != len(m.issued) {
				t.Fatalf("%v: bad %v, %d drawn; want %v, %d", c, o.Bad(), o.Drawn(), m.bad, len(m.issued))
			}
		}
		if m.bad {
			bads++
		}
	}
	if bads == 0 || bads == 3000 {
		t.Errorf("%d runs with bad events: the runs try one side alone", bads)
	}
}

// R3, R4: an oracle neither changes nor keeps the list that it is made of, and shares nothing with another.
func TestOraclesAreApart(t *testing.T) {
	draws := []uint64{7, 9}
	o, p := New(draws), New(draws)
	o.Hash("a")
	o.Meet(9)
	if !slices.Equal(draws, []uint64{7, 9}) {
		t.Errorf("changed: %v", draws)
	}
	draws[1] = 8
	number(t, "the list as it was", o.Hash("b"), 9)
	state(t, "met", o, 2, true)
	number(t, "another oracle", p.Hash("b"), 7)
	number(t, "another oracle", p.Hash("a"), 9)
	state(t, "not met", p, 2, false)
}

// R1: long texts.
func TestLongTexts(t *testing.T) {
	o := New(nil)
	long := strings.Repeat("x", 1<<24)
	h, m, c := o.Hash(long), o.Mac(1, long), o.Seal(1, 2, long, long)
	if h != o.Hash(long) || h == o.Hash(long[1:]) || !o.Verify(1, long, m) || o.Verify(1, long[1:], m) {
		t.Error("a text of 16 MiB")
	}
	if s, ok := o.Open(1, 2, long, c); s != long || !ok {
		t.Error("a plain text of 16 MiB")
	}
	state(t, "long", o, 4, false)
}
