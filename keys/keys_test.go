package keys

import (
	"countersign/ideal"
	"encoding/binary"
	"math"
	"math/rand"
	"reflect"
	"slices"
	"strings"
	"testing"
)

const (
	past = uint64(1) << 63
	most = uint64(math.MaxUint64)
)

// textByHand is Text by the document's words, with the library's encoding of a number in wire's place.
func textByHand(n uint64) string {
	return "key" + string(binary.AppendUvarint(nil, n))
}

// deriveByHand asks the oracle for what the document says, and for nothing else.
func deriveByHand(o *ideal.Oracle, key uint64, l []uint64) uint64 {
	for i := 0; i < len(l); i++ {
		key = o.Mac(key, textByHand(l[i]))
	}
	return key
}

// numbers are ordinary ones, and those at the edges of one byte, of two, and of all.
func numbers() []uint64 {
	return []uint64{0, 1, 5, 127, 128, 300, 16383, 16384, past - 1, past, most - 1, most}
}

// lists returns every list of at most length of the numbers of from.
func lists(from []uint64, length int) [][]uint64 {
	all := [][]uint64{nil}
	last := all
	for range length {
		var next [][]uint64
		for _, l := range last {
			for _, n := range from {
				next = append(next, append(slices.Clone(l), n))
			}
		}
		all = append(all, next...)
		last = next
	}
	return all
}

// join lays two lists one behind the other, in memory of their own.
func join(a, b []uint64) []uint64 {
	return append(slices.Clone(a), b...)
}

// twins returns two oracles of the same draws that were asked for the same.
func twins(draws []uint64, ask func(o *ideal.Oracle)) (*ideal.Oracle, *ideal.Oracle) {
	a, b := ideal.New(draws), ideal.New(draws)
	ask(a)
	ask(b)
	return a, b
}

func nothing(*ideal.Oracle) {}

func same(t *testing.T, name string, got, want uint64) {
	t.Helper()
	if got != want {
		t.Errorf("%s: %d, want %d", name, got, want)
	}
}

// state asks for what an oracle tells of itself.
func state(t *testing.T, name string, o *ideal.Oracle, drawn int, bad bool) {
	t.Helper()
	if o.Drawn() != drawn || o.Bad() != bad {
		t.Errorf("%s: %d drawn, bad %v; want %d, %v", name, o.Drawn(), o.Bad(), drawn, bad)
	}
}

// alike holds two oracles against each other, with all that they keep.
func alike(t *testing.T, name string, o, twin *ideal.Oracle) {
	t.Helper()
	if !reflect.DeepEqual(o, twin) {
		t.Errorf("%s: the oracle is not as its queries by hand leave it", name)
	}
}

// P4.1

func TestTextIsKeyAndTheNumber(t *testing.T) {
	for _, c := range []struct {
		n    uint64
		text string
	}{
		{0, "key\x00"},
		{1, "key\x01"},
		{5, "key\x05"},
		{'k', "keyk"},
		{127, "key\x7f"},
		{128, "key\x80\x01"},
		{300, "key\xac\x02"},
		{16383, "key\xff\x7f"},
		{16384, "key\x80\x80\x01"},
		{past, "key" + strings.Repeat("\x80", 9) + "\x01"},
		{most, "key" + strings.Repeat("\xff", 9) + "\x01"},
	} {
		if got := Text(c.n); got != c.text {
			t.Errorf("%d: %q, want %q", c.n, got, c.text)
		}
	}
}

func TestTextOfAnyNumber(t *testing.T) {
	r := rand.New(rand.NewSource(4))
	seen := map[string]uint64{}
	for i := range 20000 {
		n := r.Uint64() >> (i % 64)
		text := Text(n)
		if text != textByHand(n) {
			t.Fatalf("%d: %q, want %q", n, text, textByHand(n))
		}
		if m, ok := seen[text]; ok && m != n {
			t.Fatalf("%d and %d have one text", m, n)
		}
		seen[text] = n
	}
}

// By no number the key itself comes back: nothing is drawn, asked or met for it.
func TestDeriveByNoNumber(t *testing.T) {
	for _, key := range numbers() {
		for _, l := range [][]uint64{nil, {}, make([]uint64, 0, 3), make([]uint64, 2)[:0]} {
			o, twin := twins([]uint64{key, 9}, nothing)
			same(t, "no number", Derive(o, key, l), key)
			state(t, "no number", o, 0, false)
			alike(t, "no number", o, twin)
		}
	}
	o, twin := twins([]uint64{7, 9}, func(o *ideal.Oracle) { o.Mac(1, "key\x05") })
	same(t, "a key that led to another", Derive(o, 1, nil), 1)
	same(t, "a key that was drawn", Derive(o, 7, nil), 7)
	alike(t, "after a query", o, twin)
}

func TestDeriveOfTheExamples(t *testing.T) {
	o := ideal.New([]uint64{7, 9})
	same(t, "[]", Derive(o, 1, []uint64{}), 1)
	state(t, "[]", o, 0, false)
	same(t, "[5]", Derive(o, 1, []uint64{5}), 7)
	state(t, "[5]", o, 1, false)
	same(t, "[5 6]", Derive(o, 1, []uint64{5, 6}), 9)
	state(t, "[5 6]", o, 2, false)
}

// Each number's Mac is asked for in the order of the list, under the key that the one before led to.
func TestDeriveTakesTheNumbersInOrder(t *testing.T) {
	o := ideal.New([]uint64{7, 9, 11, 13, 15, 17})
	same(t, "[5 6 128]", Derive(o, 1, []uint64{5, 6, 128}), 11)
	state(t, "[5 6 128]", o, 3, false)
	same(t, "1, 5", o.Mac(1, "key\x05"), 7)
	same(t, "7, 6", o.Mac(7, "key\x06"), 9)
	same(t, "9, 128", o.Mac(9, "key\x80\x01"), 11)
	state(t, "asked for again by hand", o, 3, false)
	same(t, "[6 5 128]", Derive(o, 1, []uint64{6, 5, 128}), 17)
	same(t, "1, 6", o.Mac(1, "key\x06"), 13)
	same(t, "13, 5", o.Mac(13, "key\x05"), 15)
	state(t, "the other order", o, 6, false)
}

func TestDeriveByOneNumberTwice(t *testing.T) {
	o := ideal.New([]uint64{7, 9, 11})
	same(t, "[5 5]", Derive(o, 1, []uint64{5, 5}), 9)
	state(t, "[5 5]", o, 2, false)
	same(t, "[5]", Derive(o, 1, []uint64{5}), 7)
	same(t, "[5 5 5]", Derive(o, 1, []uint64{5, 5, 5}), 11)
	state(t, "[5 5 5]", o, 3, false)
	same(t, "[5 6 5]", Derive(o, 1, []uint64{5, 6, 5}), past+4)
	state(t, "[5 6 5]", o, 5, false)
}

// The least and the greatest key and number are as any other.
func TestDeriveAtTheEdges(t *testing.T) {
	for _, key := range []uint64{0, 1, past, most} {
		for _, l := range lists([]uint64{0, 127, 128, most}, 3) {
			o, twin := twins([]uint64{7, 9}, nothing)
			same(t, "edges", Derive(o, key, l), deriveByHand(twin, key, l))
			state(t, "edges", o, len(l), false)
			alike(t, "edges", o, twin)
		}
	}
	o := ideal.New([]uint64{7, 9})
	same(t, "key 0", Derive(o, 0, []uint64{5}), 7)
	same(t, "the greatest key", Derive(o, most, []uint64{5}), 9)
	same(t, "key 0 again", o.Mac(0, "key\x05"), 7)
	same(t, "the greatest key again", o.Mac(most, "key\x05"), 9)
	state(t, "both", o, 2, false)
}

func TestDeriveLeavesTheList(t *testing.T) {
	whole := []uint64{9, 3, 3, most, 0, 8, 8}
	kept := slices.Clone(whole)
	o := ideal.New(nil)
	for end := range len(whole) + 1 {
		Derive(o, 1, whole[:end])
		if !slices.Equal(whole, kept) {
			t.Fatalf("%d numbers: %v, was %v", end, whole, kept)
		}
	}
}

// No key is met, nor anything else: what Derive was given or gave may be drawn later without a bad event,
// unless it was drawn already.
func TestDeriveMeetsNothing(t *testing.T) {
	o := ideal.New([]uint64{7, 1, 5, 9, 6})
	same(t, "[5]", Derive(o, 1, []uint64{5}), 7)
	same(t, "the key, drawn", o.Fresh(), 1)
	same(t, "the number, drawn", o.Fresh(), 5)
	same(t, "[5 6]", Derive(o, 1, []uint64{5, 6}), 9)
	same(t, "the next number, drawn", o.Fresh(), 6)
	state(t, "nothing met", o, 5, false)
}

// What was asked of the Macs before is found again; what was asked of the other tables is not.
func TestDeriveAsksTheMacs(t *testing.T) {
	o := ideal.New([]uint64{7, 9, 11, 13})
	o.Hash("key\x05")
	o.Seal(1, 0, "", "key\x05")
	same(t, "[5]", Derive(o, 1, []uint64{5}), 11)
	same(t, "6 by hand", o.Mac(11, "key\x06"), 13)
	same(t, "[5 6]", Derive(o, 1, []uint64{5, 6}), 13)
	state(t, "four", o, 4, false)
	if !o.Verify(1, "key\x05", 11) || !o.Verify(11, "key\x06", 13) {
		t.Error("a key that was derived is not the tag of its text")
	}
}

// Random lists, in between what else an oracle is asked for: it ends as its queries by hand leave it.
func TestDeriveBesideQueriesByHand(t *testing.T) {
	r := rand.New(rand.NewSource(41))
	for range 300 {
		draws := make([]uint64, r.Intn(12))
		for i := range draws {
			draws[i] = uint64(r.Intn(9))
		}
		o, twin := twins(draws, nothing)
		for range 20 {
			key, n := uint64(r.Intn(9)), uint64(r.Intn(3))
			l := make([]uint64, r.Intn(5))
			for i := range l {
				l[i] = uint64(r.Intn(3))
			}
			switch r.Intn(6) {
			case 0:
				o.Meet(key)
				twin.Meet(key)
			case 1:
				same(t, "hash", o.Hash(Text(n)), twin.Hash(Text(n)))
			case 2:
				same(t, "mac", o.Mac(key, Text(n)), twin.Mac(key, Text(n)))
			default:
				same(t, "derive", Derive(o, key, l), deriveByHand(twin, key, l))
			}
			alike(t, "random", o, twin)
		}
	}
}

// Nothing is kept from one oracle to the next.
func TestDeriveOfOracleByOracle(t *testing.T) {
	a, b := ideal.New([]uint64{7}), ideal.New([]uint64{9})
	same(t, "one", Derive(a, 1, []uint64{5}), 7)
	same(t, "the other", Derive(b, 1, []uint64{5}), 9)
	same(t, "one again", Derive(a, 1, []uint64{5}), 7)
	state(t, "one", a, 1, false)
	state(t, "the other", b, 1, false)
}

func TestDeriveByManyNumbers(t *testing.T) {
	o := ideal.New(nil)
	l := make([]uint64, 100000)
	same(t, "many", Derive(o, 1, l), past+99999)
	state(t, "many", o, len(l), false)
	same(t, "many again", Derive(o, 1, l), past+99999)
	state(t, "many again", o, len(l), false)
}

// P4.2

func TestVolumeIsDeriveByThree(t *testing.T) {
	from := []uint64{0, 2, 128, most}
	for _, master := range []uint64{0, 1, most} {
		for _, l := range lists(from, 3) {
			if len(l) != 3 {
				continue
			}
			o, twin := twins([]uint64{7, 9}, nothing)
			same(t, "volume", Volume(o, master, l[0], l[1], l[2]), deriveByHand(twin, master, l))
			state(t, "volume", o, 3, false)
			alike(t, "volume", o, twin)
			same(t, "by Derive", Derive(o, master, l), Volume(o, master, l[0], l[1], l[2]))
			state(t, "by Derive", o, 3, false)
		}
	}
}

func TestVolumeTakesItsNumbersInOrder(t *testing.T) {
	o := ideal.New([]uint64{7, 9, 11, 13, 15, 17, 19, 21})
	same(t, "2 3 4", Volume(o, 1, 2, 3, 4), 11)
	same(t, "tenant", o.Mac(1, "key\x02"), 7)
	same(t, "volume", o.Mac(7, "key\x03"), 9)
	same(t, "epoch", o.Mac(9, "key\x04"), 11)
	state(t, "2 3 4", o, 3, false)
	same(t, "tenant and volume exchanged", Volume(o, 1, 3, 2, 4), 17)
	state(t, "tenant and volume exchanged", o, 6, false)
	same(t, "volume and epoch exchanged", Volume(o, 1, 2, 4, 3), 21)
	state(t, "volume and epoch exchanged", o, 8, false)
	same(t, "tenant and epoch exchanged", Volume(o, 1, 4, 3, 2), past+10)
	state(t, "tenant and epoch exchanged", o, 11, false)
	same(t, "master and tenant exchanged", Volume(o, 2, 1, 3, 4), past+13)
	state(t, "master and tenant exchanged", o, 14, false)
	same(t, "2 3 4 again", Volume(o, 1, 2, 3, 4), 11)
	state(t, "2 3 4 again", o, 14, false)
}

// P4.3

func TestDeriveOfTwoListsOneBehindTheOther(t *testing.T) {
	all := lists([]uint64{0, 5, most}, 3)
	for _, a := range all {
		for _, b := range all {
			o, twin := twins([]uint64{7, 9}, nothing)
			both := Derive(o, 1, join(a, b))
			same(t, "the first, then the second", Derive(twin, Derive(twin, 1, a), b), both)
			alike(t, "the first, then the second", o, twin)
			same(t, "at the same oracle", Derive(o, Derive(o, 1, a), b), both)
			state(t, "at the same oracle", o, len(a)+len(b), false)
		}
	}
}

// A derivation again draws nothing, nor does one whose list begins it.
func TestDeriveAgainDrawsNothing(t *testing.T) {
	l := []uint64{5, 6, 5, 0, most, 128}
	o := ideal.New([]uint64{7, 9, 11})
	last := Derive(o, 1, l)
	state(t, "once", o, len(l), false)
	same(t, "again", Derive(o, 1, l), last)
	state(t, "again", o, len(l), false)
	for end := range len(l) {
		want := []uint64{1, 7, 9, 11, past + 3, past + 4}[end]
		same(t, "what begins it", Derive(o, 1, l[:end]), want)
		state(t, "what begins it", o, len(l), false)
	}
	same(t, "one more", Derive(o, 1, join(l, []uint64{1})), past+6)
	state(t, "one more", o, len(l)+1, false)
}

func TestUnlikeListsLeadToUnlikeKeys(t *testing.T) {
	for _, key := range []uint64{0, 1, most} {
		o := ideal.New(nil)
		o.Meet(key)
		led := map[uint64][]uint64{}
		for _, l := range lists(numbers(), 3) {
			k := Derive(o, key, l)
			if other, ok := led[k]; ok {
				t.Fatalf("%v and %v lead to %d", other, l, k)
			}
			led[k] = l
		}
		// Each list but the empty one drew its last key alone: those that begin it came before it.
		state(t, "all lists", o, len(led)-1, false)
	}
}

// The Macs may be asked for keys that are drawn only later, and the tree grow in any order.
func TestUnlikeListsAmidOtherQueries(t *testing.T) {
	r := rand.New(rand.NewSource(43))
	for range 100 {
		draws := make([]uint64, 60)
		for i, n := range r.Perm(len(draws)) {
			draws[i] = uint64(n) + 2
		}
		o := ideal.New(draws)
		o.Meet(1)
		all := lists([]uint64{0, 1, 200}, 3)
		for _, i := range r.Perm(len(all)) {
			if i%3 == 0 {
				o.Mac(uint64(r.Intn(70)), Text(uint64(r.Intn(2))))
			}
			Derive(o, 1, all[i])
		}
		led := map[uint64]bool{}
		for _, l := range all {
			led[Derive(o, 1, l)] = true
		}
		if o.Bad() || len(led) != len(all) {
			t.Fatalf("%d lists lead to %d keys, bad %v", len(all), len(led), o.Bad())
		}
	}
}

func TestUnlikeVolumesHaveUnlikeKeys(t *testing.T) {
	o := ideal.New([]uint64{7, 9, 11})
	o.Meet(1)
	led := map[uint64][3]uint64{}
	for _, tenant := range numbers() {
		for _, volume := range numbers() {
			for _, epoch := range numbers() {
				k := Volume(o, 1, tenant, volume, epoch)
				if other, ok := led[k]; ok {
					t.Fatalf("%v and %d %d %d have the key %d", other, tenant, volume, epoch, k)
				}
				led[k] = [3]uint64{tenant, volume, epoch}
			}
		}
	}
	n := len(numbers())
	state(t, "all volumes", o, n+n*n+n*n*n, false)
}

// Where a value is drawn twice, unlike lists share a key, and all that follows from it.
func TestDeriveAfterAValueDrawnTwice(t *testing.T) {
	o := ideal.New([]uint64{7, 7, 9})
	same(t, "[5]", Derive(o, 1, []uint64{5}), 7)
	state(t, "[5]", o, 1, false)
	same(t, "[6]", Derive(o, 1, []uint64{6}), 7)
	state(t, "[6]", o, 2, true)
	same(t, "[5 8]", Derive(o, 1, []uint64{5, 8}), 9)
	state(t, "[5 8]", o, 3, true)
	same(t, "[6 8]", Derive(o, 1, []uint64{6, 8}), 9)
	state(t, "[6 8]", o, 3, true)
	same(t, "[6 9]", Derive(o, 1, []uint64{6, 9}), past+3)
	same(t, "[5]", Derive(o, 1, []uint64{5}), 7)
	state(t, "[5] again", o, 4, true)
	same(t, "1 2 3 4", Volume(o, 1, 2, 3, 4), past+6)
	state(t, "1 2 3 4", o, 7, true)
}

// Where the key itself is drawn, a list leads back to where it began, however long it is.
func TestDeriveAfterItsFirstKeyIsDrawn(t *testing.T) {
	for _, met := range []bool{false, true} {
		o := ideal.New([]uint64{1, 9})
		if met {
			o.Meet(1)
		}
		same(t, "[5]", Derive(o, 1, []uint64{5}), 1)
		same(t, "[5 5 5]", Derive(o, 1, []uint64{5, 5, 5}), 1)
		state(t, "one draw", o, 1, met)
		same(t, "[5 6]", Derive(o, 1, []uint64{5, 6}), 9)
		same(t, "[6]", Derive(o, 1, []uint64{6}), 9)
		state(t, "two draws", o, 2, met)
	}
}

// A drawn 0 is a bad event, and a key all the same.
func TestDeriveAfterADrawnZero(t *testing.T) {
	o := ideal.New([]uint64{0, 9})
	same(t, "[5]", Derive(o, 1, []uint64{5}), 0)
	state(t, "[5]", o, 1, true)
	same(t, "[5 6]", Derive(o, 1, []uint64{5, 6}), 9)
	same(t, "0, 6", o.Mac(0, "key\x06"), 9)
	state(t, "[5 6]", o, 2, true)
}
