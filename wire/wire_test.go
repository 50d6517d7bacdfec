package wire

import (
	"encoding/binary"
	"math"
	"slices"
	"strings"
	"testing"
)

// numbers are at the edges of each count of bytes, from one to ten.
func numbers() []uint64 {
	l := []uint64{0, 1, 2, 126, 127, 128, 129, 300, math.MaxInt64, math.MaxUint32, math.MaxUint64 - 1, math.MaxUint64}
	for bit := 7; bit < 64; bit += 7 {
		n := uint64(1) << bit
		l = append(l, n-1, n, n+1)
	}
	slices.Sort(l)
	return slices.Compact(l)
}

func texts() []string {
	l := []string{"", "\x00", "\x80", "\xff", "a", "ab", "\x02ab", "\xc3\x28"}
	for _, n := range []int{127, 128, 129, 16383, 16384} {
		l = append(l, strings.Repeat("x", n))
	}
	return l
}

func numLists() [][]uint64 {
	return [][]uint64{nil, {0}, {0, 0}, {1, 128}, {127}, {128}, {math.MaxUint64}, numbers(), make([]uint64, 127), make([]uint64, 128)}
}

func textLists() [][]string {
	return [][]string{nil, {""}, {"", ""}, {"", "ab"}, {"ab", ""}, {"a", "b"}, texts(), make([]string, 127), make([]string, 128)}
}

// tails are what may follow an encoding.
func tails() []string {
	return []string{"", "z", "\x00", "\x01", "\x80", "\xff\xff"}
}

// kind is one of the four kinds, with its values put as one encoding each.
type kind struct {
	name string
	all  []string
	// again takes a value and puts it; zero tells whether what came beside false was zero.
	again func(s string, most int) (put, rest string, ok, zero bool)
}

func kinds() []kind {
	return []kind{
		{"number", putAll(numbers(), PutUint), func(s string, most int) (string, string, bool, bool) {
			n, rest, ok := TakeUint(s)
			return PutUint(n), rest, ok, n == 0 && rest == ""
		}},
		{"text", putAll(texts(), PutText), func(s string, most int) (string, string, bool, bool) {
			x, rest, ok := TakeText(s, most)
			return PutText(x), rest, ok, x == "" && rest == ""
		}},
		{"nums", putAll(numLists(), PutNums), func(s string, most int) (string, string, bool, bool) {
			l, rest, ok := TakeNums(s, most)
			return PutNums(l), rest, ok, len(l) == 0 && rest == ""
		}},
		{"list", putAll(textLists(), PutList), func(s string, most int) (string, string, bool, bool) {
			l, rest, ok := TakeList(s, most)
			return PutList(l), rest, ok, len(l) == 0 && rest == ""
		}},
	}
}

func putAll[T any](l []T, put func(T) string) []string {
	var all []string
	for _, x := range l {
		all = append(all, put(x))
	}
	return all
}

// shortTexts calls f with each text of at most most bytes, of those bytes that matter.
func shortTexts(most int, f func(string)) {
	var walk func(s string)
	walk = func(s string) {
		f(s)
		if len(s) == most {
			return
		}
		for _, c := range []byte{0, 1, 2, 3, 127, 128, 129, 255} {
			walk(s + string([]byte{c}))
		}
	}
	walk("")
}

// P1.1

func TestPutUint(t *testing.T) {
	for n, want := range map[uint64]string{
		0: "\x00", 1: "\x01", 127: "\x7f", 128: "\x80\x01", 255: "\xff\x01", 300: "\xac\x02",
		16383: "\xff\x7f", 16384: "\x80\x80\x01",
		1<<63 - 1:      "\xff\xff\xff\xff\xff\xff\xff\xff\x7f",
		1 << 63:        "\x80\x80\x80\x80\x80\x80\x80\x80\x80\x01",
		math.MaxUint64: "\xff\xff\xff\xff\xff\xff\xff\xff\xff\x01",
	} {
		if s := PutUint(n); s != want {
			t.Errorf("%d: %q, not %q", n, s, want)
		}
	}
}

func TestPutUintAsTheLibrary(t *testing.T) {
	for _, n := range numbers() {
		if s, want := PutUint(n), string(binary.AppendUvarint(nil, n)); s != want {
			t.Errorf("%d: %q, not %q", n, s, want)
		}
	}
}

func TestPutText(t *testing.T) {
	for s, want := range map[string]string{
		"": "\x00", "ab": "\x02ab", "\x00": "\x01\x00", "\xff\x80": "\x02\xff\x80",
		strings.Repeat("x", 127): "\x7f" + strings.Repeat("x", 127),
		strings.Repeat("x", 128): "\x80\x01" + strings.Repeat("x", 128),
	} {
		if got := PutText(s); got != want {
			t.Errorf("%q: %q, not %q", s, got, want)
		}
	}
}

func TestPutNums(t *testing.T) {
	for _, c := range []struct {
		l    []uint64
		want string
	}{
		{nil, "\x00"}, {[]uint64{}, "\x00"}, {[]uint64{0}, "\x01\x00"}, {[]uint64{1, 128}, "\x02\x01\x80\x01"},
		{[]uint64{math.MaxUint64, 0}, "\x02\xff\xff\xff\xff\xff\xff\xff\xff\xff\x01\x00"},
		{make([]uint64, 128), "\x80\x01" + strings.Repeat("\x00", 128)},
	} {
		if got := PutNums(c.l); got != c.want {
			t.Errorf("%v: %q, not %q", c.l, got, c.want)
		}
	}
}

func TestPutList(t *testing.T) {
	for _, c := range []struct {
		l    []string
		want string
	}{
		{nil, "\x00"}, {[]string{}, "\x00"}, {[]string{""}, "\x01\x00"}, {[]string{"", "ab"}, "\x02\x00\x02ab"},
		{[]string{"b", "a"}, "\x02\x01b\x01a"},
		{make([]string, 128), "\x80\x01" + strings.Repeat("\x00", 128)},
	} {
		if got := PutList(c.l); got != c.want {
			t.Errorf("%q: %q, not %q", c.l, got, c.want)
		}
	}
}

// P1.2

func TestTakeUint(t *testing.T) {
	for _, c := range []struct {
		s    string
		n    uint64
		rest string
	}{
		{"\x00", 0, ""}, {"\x00\x00", 0, "\x00"}, {"\x7fz", 127, "z"}, {"\x80\x01", 128, ""}, {"\xac\x02\x80", 300, "\x80"},
		{"\x80\x80\x80\x80\x80\x80\x80\x80\x80\x01z", 1 << 63, "z"},
		{"\xff\xff\xff\xff\xff\xff\xff\xff\xff\x01\x01", math.MaxUint64, "\x01"},
	} {
		if n, rest, ok := TakeUint(c.s); n != c.n || rest != c.rest || !ok {
			t.Errorf("%q: %d, %q, %v", c.s, n, rest, ok)
		}
	}
}

func TestTakeUintOfNone(t *testing.T) {
	nine := strings.Repeat("\xff", 9)
	zeros := strings.Repeat("\x80", 9)
	for _, s := range []string{
		"", "\x80", "\xff", "\x80\x00", "\x81\x00", "\xff\x00", "\x80\x80\x00", "\xff\xff\x00z",
		nine, nine + "\x00", nine + "\x02", nine + "\x03", nine + "\x7f", nine + "\x80", nine + "\x81", nine + "\xff",
		nine + "\x80\x00", nine + "\x80\x01", nine + "\x81\x01", nine + "\xff\x01",
		zeros, zeros + "\x00", zeros + "\x02", zeros + "\x80\x01", strings.Repeat("\x80", 1000) + "\x01",
	} {
		if n, rest, ok := TakeUint(s); n != 0 || rest != "" || ok {
			t.Errorf("%q: %d, %q, %v", s, n, rest, ok)
		}
	}
}

func TestTakeUintAsTheLibrary(t *testing.T) {
	check := func(s string) {
		want, bytes := binary.Uvarint([]byte(s))
		fits := bytes > 0 && (bytes == 1 || s[bytes-1] != 0)
		n, rest, ok := TakeUint(s)
		if ok != fits || ok && (n != want || rest != s[bytes:]) {
			t.Errorf("%q: %d, %q, %v", s, n, rest, ok)
		}
	}
	shortTexts(5, check)
	shortTexts(3, func(s string) { check(strings.Repeat("\x80", 8) + s) })
	shortTexts(3, func(s string) { check(strings.Repeat("\xff", 8) + s) })
}

func TestTakeText(t *testing.T) {
	for _, c := range []struct {
		s       string
		most    int
		x, rest string
		ok      bool
	}{
		{"\x02ab", 2, "ab", "", true}, {"\x02abc", 2, "ab", "c", true}, {"\x02ab", math.MaxInt, "ab", "", true},
		{"\x00", 0, "", "", true}, {"\x00z", 0, "", "z", true}, {"\x01\x00", 1, "\x00", "", true},
		{"\x02ab", 1, "", "", false}, {"\x02ab", 0, "", "", false}, {"\x02ab", -1, "", "", false},
		{"\x02ab", math.MinInt, "", "", false}, {"\x00", -1, "", "", false}, {"\x00", math.MinInt, "", "", false},
		{"", 9, "", "", false}, {"\x01", 9, "", "", false}, {"\x02a", 9, "", "", false}, {"\x80", 9, "", "", false},
		{"\x82\x00ab", 9, "", "", false}, {"\x80\x00", 9, "", "", false},
		{PutUint(1<<63) + "ab", math.MaxInt, "", "", false}, {PutUint(math.MaxUint64) + "ab", math.MaxInt, "", "", false},
		{PutUint(math.MaxInt64) + "ab", math.MaxInt, "", "", false}, {PutUint(math.MaxUint64) + "ab", -1, "", "", false},
		{PutUint(1<<32+2) + "ab", 2, "", "", false},
	} {
		if x, rest, ok := TakeText(c.s, c.most); x != c.x || rest != c.rest || ok != c.ok {
			t.Errorf("%q, %d: %q, %q, %v", c.s, c.most, x, rest, ok)
		}
	}
}

func TestTakeNums(t *testing.T) {
	for _, c := range []struct {
		s    string
		most int
		l    []uint64
		rest string
		ok   bool
	}{
		{"\x02\x01\x80\x01", 2, []uint64{1, 128}, "", true}, {"\x02\x01\x80\x01\x80", 3, []uint64{1, 128}, "\x80", true},
		{"\x00", 0, nil, "", true}, {"\x00\x00", math.MaxInt, nil, "\x00", true}, {"\x01\x00", 1, []uint64{0}, "", true},
		{"\x02\x01\x80\x01", 1, nil, "", false}, {"\x01\x00", 0, nil, "", false}, {"\x00", -1, nil, "", false},
		{"\x01\x00", -1, nil, "", false}, {"\x00", math.MinInt, nil, "", false},
		{"", 9, nil, "", false}, {"\x01", 9, nil, "", false}, {"\x02\x01", 9, nil, "", false}, {"\x02\x01\x80", 9, nil, "", false},
		{"\x02\x01\x80\x00", 9, nil, "", false}, {"\x02\x80\x00\x01", 9, nil, "", false}, {"\x81\x00\x01", 9, nil, "", false},
		{"\x01\xff\xff\xff\xff\xff\xff\xff\xff\xff\x02", 9, nil, "", false},
		{"\x03\x01\x80\x01", 9, nil, "", false}, {PutUint(math.MaxUint64) + "\x01", math.MaxInt, nil, "", false},
		{PutUint(1<<63) + "\x01", math.MaxInt, nil, "", false}, {PutUint(1<<32) + "\x01", math.MaxInt, nil, "", false},
	} {
		l, rest, ok := TakeNums(c.s, c.most)
		if !slices.Equal(l, c.l) || rest != c.rest || ok != c.ok {
			t.Errorf("%q, %d: %v, %q, %v", c.s, c.most, l, rest, ok)
		}
	}
}

func TestTakeList(t *testing.T) {
	long := strings.Repeat("x", 1000)
	for _, c := range []struct {
		s    string
		most int
		l    []string
		rest string
		ok   bool
	}{
		{"\x02\x00\x02abc", 2, []string{"", "ab"}, "c", true}, {"\x01\x01\x00", 1, []string{"\x00"}, "", true},
		{"\x00", 0, nil, "", true}, {"\x00\x00", math.MaxInt, nil, "\x00", true}, {"\x01\x00", 1, []string{""}, "", true},
		{"\x01\xe8\x07" + long, 1, []string{long}, "", true},
		{"\x02\x00\x02ab", 1, nil, "", false}, {"\x01\x00", 0, nil, "", false}, {"\x00", -1, nil, "", false},
		{"\x01\x00", -1, nil, "", false}, {"\x00", math.MinInt, nil, "", false},
		{"", 9, nil, "", false}, {"\x01", 9, nil, "", false}, {"\x02\x00", 9, nil, "", false}, {"\x02\x00\x02a", 9, nil, "", false},
		{"\x01\x80\x00", 9, nil, "", false}, {"\x01\x82\x00ab", 9, nil, "", false}, {"\x81\x00\x00", 9, nil, "", false},
		{"\x01" + PutUint(math.MaxUint64) + "ab", 9, nil, "", false}, {"\x01" + PutUint(1<<63) + "ab", 9, nil, "", false},
		{PutUint(math.MaxUint64) + "\x00", math.MaxInt, nil, "", false}, {PutUint(1<<63) + "\x00", math.MaxInt, nil, "", false},
		{PutUint(1<<32) + "\x00", math.MaxInt, nil, "", false},
	} {
		l, rest, ok := TakeList(c.s, c.most)
		if !slices.Equal(l, c.l) || rest != c.rest || ok != c.ok {
			t.Errorf("%q, %d: %q, %q, %v", c.s, c.most, l, rest, ok)
		}
	}
}

// P1.3

func TestWhatIsPutIsTaken(t *testing.T) {
	for _, tail := range tails() {
		for _, want := range numbers() {
			if n, rest, ok := TakeUint(PutUint(want) + tail); n != want || rest != tail || !ok {
				t.Errorf("%d before %q: %d, %q, %v", want, tail, n, rest, ok)
			}
		}
		for _, want := range texts() {
			if x, rest, ok := TakeText(PutText(want)+tail, len(want)); x != want || rest != tail || !ok {
				t.Errorf("%q before %q: %q, %q, %v", want, tail, x, rest, ok)
			}
		}
		for _, want := range numLists() {
			if l, rest, ok := TakeNums(PutNums(want)+tail, len(want)); !slices.Equal(l, want) || rest != tail || !ok {
				t.Errorf("%v before %q: %v, %q, %v", want, tail, l, rest, ok)
			}
		}
		for _, want := range textLists() {
			if l, rest, ok := TakeList(PutList(want)+tail, len(want)); !slices.Equal(l, want) || rest != tail || !ok {
				t.Errorf("%q before %q: %q, %q, %v", want, tail, l, rest, ok)
			}
		}
	}
}

func TestOneMoreThanMostIsRefused(t *testing.T) {
	for _, x := range texts() {
		if _, _, ok := TakeText(PutText(x), len(x)-1); ok {
			t.Errorf("text of %d bytes", len(x))
		}
	}
	for _, l := range numLists() {
		if _, _, ok := TakeNums(PutNums(l), len(l)-1); ok {
			t.Errorf("%d numbers", len(l))
		}
	}
	for _, l := range textLists() {
		if _, _, ok := TakeList(PutList(l), len(l)-1); ok {
			t.Errorf("%d texts", len(l))
		}
	}
}

func TestWhatIsTakenIsPutAsItStood(t *testing.T) {
	for _, k := range kinds() {
		shortTexts(5, func(s string) {
			put, rest, ok, zero := k.again(s, math.MaxInt)
			if ok && put+rest != s {
				t.Errorf("%s %q: put again %q, left %q", k.name, s, put, rest)
			}
			if !ok && !zero {
				t.Errorf("%s %q: a result beside false", k.name, s)
			}
		})
	}
}

func TestNothingTruncatedIsTaken(t *testing.T) {
	for _, k := range kinds() {
		for _, s := range k.all {
			for i := range len(s) {
				// Long ones are cut near their ends, where what is taken changes.
				if i > 300 && i < len(s)-300 {
					continue
				}
				if _, _, ok, zero := k.again(s[:i], math.MaxInt); ok || !zero {
					t.Errorf("%s: %d of %d bytes are taken", k.name, i, len(s))
				}
			}
		}
	}
}

func TestNoEncodingBeginsAnother(t *testing.T) {
	for _, k := range kinds() {
		for i, a := range k.all {
			for j, b := range k.all {
				if i != j && strings.HasPrefix(b, a) {
					t.Errorf("%s: value %d begins value %d", k.name, i, j)
				}
			}
		}
	}
}

// R1 to R5

func TestNegativeMostIsRefused(t *testing.T) {
	for _, k := range kinds()[1:] {
		for _, s := range append(k.all, "", "\x80") {
			for _, most := range []int{-1, -128, math.MinInt32, math.MinInt} {
				if _, _, ok, zero := k.again(s, most); ok || !zero {
					t.Errorf("%s, most %d: taken", k.name, most)
				}
			}
		}
	}
}

func TestManyAreTaken(t *testing.T) {
	nums, list := make([]uint64, 1<<18), make([]string, 1<<18)
	for i := range nums {
		nums[i] = uint64(i) << 40
		list[i] = PutUint(nums[i])
	}
	if l, rest, ok := TakeNums(PutNums(nums)+"z", len(nums)); !slices.Equal(l, nums) || rest != "z" || !ok {
		t.Errorf("%d numbers, %q, %v", len(l), rest, ok)
	}
	if l, rest, ok := TakeList(PutList(list)+"z", len(list)); !slices.Equal(l, list) || rest != "z" || !ok {
		t.Errorf("%d texts, %q, %v", len(l), rest, ok)
	}
}

func TestArgumentsStayAndResultsAreNew(t *testing.T) {
	nums, list := []uint64{5, 300}, []string{"a", "b"}
	s, z := PutNums(nums), PutList(list)
	a, _, _ := TakeNums(s, 2)
	b, _, _ := TakeNums(s, 2)
	c, _, _ := TakeList(z, 2)
	d, _, _ := TakeList(z, 2)
	a[0], c[0] = 7, "q"
	if !slices.Equal(nums, []uint64{5, 300}) || !slices.Equal(list, []string{"a", "b"}) {
		t.Error(nums, list)
	}
	if !slices.Equal(b, []uint64{5, 300}) || !slices.Equal(d, []string{"a", "b"}) {
		t.Error(b, d)
	}
}

func TestNothingIsKept(t *testing.T) {
	TakeList("\x05\x01a", 9)
	TakeNums("\x02\x09\x80", 9)
	if l, rest, ok := TakeList("\x01\x01b", 9); !slices.Equal(l, []string{"b"}) || rest != "" || !ok {
		t.Error(l, rest, ok)
	}
	if l, rest, ok := TakeNums("\x01\x03", 9); !slices.Equal(l, []uint64{3}) || rest != "" || !ok {
		t.Error(l, rest, ok)
	}
}
