package seal

import (
	"countersign/api"
	"countersign/ideal"
	"encoding/binary"
	"math"
	"math/rand"
	"reflect"
	"slices"
	"strings"
	"testing"
)

const (
	past = uint64(1) << 63
	most = uint64(math.MaxUint64)
)

// place is what a leaf is locked to beside its key: the first two are handed to Unlock, the others lie in the leaf.
type place struct{ volume, sector, version, epoch uint64 }

// encode is four numbers by the document's words, with the library's encoding of a number in wire's place.
func encode(a, b, c, d uint64) string {
	s := binary.AppendUvarint(nil, a)
	s = binary.AppendUvarint(s, b)
	s = binary.AppendUvarint(s, c)
	return string(binary.AppendUvarint(s, d))
}

// lockByHand asks the oracle for what the document says, and for nothing else.
func lockByHand(o *ideal.Oracle, key uint64, p place, plain string) api.Leaf {
	l := api.Leaf{Version: p.version, Epoch: p.epoch}
	l.Nonce = o.Fresh()
	l.Cipher = o.Seal(key, l.Nonce, encode(p.volume, p.sector, p.version, p.epoch), plain)
	return l
}

func unlockByHand(o *ideal.Oracle, key, volume, sector uint64, l api.Leaf) (string, bool) {
	return o.Open(key, l.Nonce, encode(volume, sector, l.Version, l.Epoch), l.Cipher)
}

func lock(o *ideal.Oracle, key uint64, p place, plain string) api.Leaf {
	return Lock(o, key, p.volume, p.sector, p.version, p.epoch, plain)
}

// numbers are ordinary ones, and those at the edges of one byte, of two, and of all.
func numbers() []uint64 {
	return []uint64{0, 1, 5, 127, 128, 300, 16383, 16384, past - 1, past, most - 1, most}
}

// fours returns all fours of some of the numbers.
func fours() [][4]uint64 {
	from := []uint64{0, 1, 127, 128, past, most}
	var all [][4]uint64
	for _, a := range from {
		for _, b := range from {
			for _, c := range from {
				for _, d := range from {
					all = append(all, [4]uint64{a, b, c, d})
				}
			}
		}
	}
	return all
}

func leafOf(n [4]uint64) api.Leaf {
	return api.Leaf{Version: n[0], Epoch: n[1], Nonce: n[2], Cipher: n[3]}
}

// plains are an empty text, ordinary ones, one that looks like a leaf, and a long one.
func plains() []string {
	return []string{"", "x", "hi", "\x00", "\xff\x80", "\x01\x00\x07\x09", strings.Repeat("ab", 1<<19)}
}

// twins returns two oracles of the same draws.
func twins(draws ...uint64) (*ideal.Oracle, *ideal.Oracle) {
	return ideal.New(draws), ideal.New(draws)
}

func sameText(t *testing.T, name, got, want string) {
	t.Helper()
	if got != want {
		t.Errorf("%s: %q, want %q", name, got, want)
	}
}

func sameLeaf(t *testing.T, name string, got, want api.Leaf) {
	t.Helper()
	if got != want {
		t.Errorf("%s: %v, want %v", name, got, want)
	}
}

// opens asks for the text that a leaf of a place must be unlocked to.
func opens(t *testing.T, name string, o *ideal.Oracle, key uint64, p place, l api.Leaf, plain string) {
	t.Helper()
	got, ok := Unlock(o, key, p.volume, p.sector, l)
	if got != plain || !ok {
		t.Errorf("%s: %.40q, %v; want %.40q, true", name, got, ok, plain)
	}
}

// shut asks for no text at all.
func shut(t *testing.T, name string, o *ideal.Oracle, key, volume, sector uint64, l api.Leaf) {
	t.Helper()
	got, ok := Unlock(o, key, volume, sector, l)
	if got != "" || ok {
		t.Errorf("%s: %.40q, %v; want no text, false", name, got, ok)
	}
}

// state asks for what an oracle tells of itself.
func state(t *testing.T, name string, o *ideal.Oracle, drawn int, bad bool) {
	t.Helper()
	if o.Drawn() != drawn || o.Bad() != bad {
		t.Errorf("%s: %d drawn, bad %v; want %d, %v", name, o.Drawn(), o.Bad(), drawn, bad)
	}
}

// alike holds two oracles against each other, with all that they keep.
func alike(t *testing.T, name string, o, twin *ideal.Oracle) {
	t.Helper()
	if !reflect.DeepEqual(o, twin) {
		t.Errorf("%s: the oracle is not as its queries by hand leave it", name)
	}
}

// P5.1

func TestAdIsFourNumbersInTheirOrder(t *testing.T) {
	sameText(t, "ordinary", Ad(2, 3, 1, 0), "\x02\x03\x01\x00")
	sameText(t, "none", Ad(0, 0, 0, 0), "\x00\x00\x00\x00")
	sameText(t, "one byte, two", Ad(127, 128, 300, 16383), "\x7f\x80\x01\xac\x02\xff\x7f")
	greatest := strings.Repeat("\xff", 9) + "\x01"
	sameText(t, "greatest", Ad(most, most, most, most), strings.Repeat(greatest, 4))
	sameText(t, "greatest volume", Ad(most, 1, 2, 3), greatest+"\x01\x02\x03")
	sameText(t, "greatest sector", Ad(1, most, 2, 3), "\x01"+greatest+"\x02\x03")
	sameText(t, "greatest version", Ad(1, 2, most, 3), "\x01\x02"+greatest+"\x03")
	sameText(t, "greatest epoch", Ad(1, 2, 3, most), "\x01\x02\x03"+greatest)
}

func TestTextIsALeafsNumbersInTheirOrder(t *testing.T) {
	sameText(t, "the example", Text(api.Leaf{Version: 1, Epoch: 0, Nonce: 7, Cipher: 9}), "\x01\x00\x07\x09")
	sameText(t, "the zero leaf", Text(api.Leaf{}), "\x00\x00\x00\x00")
	sameText(t, "version", Text(api.Leaf{Version: 128}), "\x80\x01\x00\x00\x00")
	sameText(t, "epoch", Text(api.Leaf{Epoch: 128}), "\x00\x80\x01\x00\x00")
	sameText(t, "nonce", Text(api.Leaf{Nonce: 128}), "\x00\x00\x80\x01\x00")
	sameText(t, "cipher", Text(api.Leaf{Cipher: 128}), "\x00\x00\x00\x80\x01")
	greatest := strings.Repeat("\xff", 9) + "\x01"
	l := api.Leaf{Version: most, Epoch: most, Nonce: most, Cipher: most}
	sameText(t, "greatest", Text(l), strings.Repeat(greatest, 4))
}

func TestAdAndTextOfManyNumbers(t *testing.T) {
	seen := map[string][4]uint64{}
	for _, n := range fours() {
		want := encode(n[0], n[1], n[2], n[3])
		sameText(t, "ad", Ad(n[0], n[1], n[2], n[3]), want)
		sameText(t, "text", Text(leafOf(n)), want)
		if other, ok := seen[want]; ok {
			t.Errorf("%v and %v have one text", other, n)
		}
		seen[want] = n
	}
}

func TestParseOfATextGivesItsLeaf(t *testing.T) {
	for _, n := range fours() {
		l, ok := Parse(Text(leafOf(n)))
		if l != leafOf(n) || !ok {
			t.Fatalf("%v: %v, %v", n, l, ok)
		}
	}
}

func noLeaf(t *testing.T, s string) {
	t.Helper()
	if l, ok := Parse(s); l != (api.Leaf{}) || ok {
		t.Errorf("%q: %v, %v; want no leaf, false", s, l, ok)
	}
}

func TestParseOfWhatIsTooShortOrTooLong(t *testing.T) {
	noLeaf(t, "")
	noLeaf(t, "\x01\x00\x07")
	for _, n := range fours() {
		s := Text(leafOf(n))
		for end := range len(s) {
			noLeaf(t, s[:end])
		}
		for _, more := range []string{"\x00", "\x01", "\x80", "\xff", s} {
			noLeaf(t, s+more)
		}
	}
}

// Wherever one of the four numbers stands in another encoding than its own, or is none, there is no leaf.
func TestParseOfWhatIsNoEncoding(t *testing.T) {
	wrong := []string{
		"\x80\x00", "\x81\x00", "\xff\x00", "\x80\x80\x00", "\xac\x82\x00",
		strings.Repeat("\x80", 9) + "\x00",
		strings.Repeat("\xff", 9) + "\x02", strings.Repeat("\x80", 9) + "\x02",
		strings.Repeat("\xff", 9) + "\x7f", strings.Repeat("\xff", 9) + "\x81\x00",
		strings.Repeat("\xff", 10), strings.Repeat("\x80", 10) + "\x01", strings.Repeat("\x80", 50),
	}
	for _, w := range wrong {
		for at := range 4 {
			parts := []string{"\x01", "\x00", "\x07", "\x09"}
			parts[at] = w
			noLeaf(t, strings.Join(parts, ""))
		}
	}
	noLeaf(t, strings.Repeat("\x80", 1<<20))
	noLeaf(t, strings.Repeat("\x00", 1<<20))
}

// Whatever bytes Parse takes for a leaf are the leaf's text, and the bytes of a text are taken.
func TestParseOfAnyBytes(t *testing.T) {
	r := rand.New(rand.NewSource(5))
	some := []byte{0, 1, 7, 127, 128, 129, 255}
	taken := 0
	for range 200000 {
		b := make([]byte, r.Intn(9))
		for i := range b {
			b[i] = some[r.Intn(len(some))]
		}
		l, ok := Parse(string(b))
		if ok && Text(l) != string(b) || !ok && l != (api.Leaf{}) {
			t.Fatalf("%q: %v, %v", b, l, ok)
		}
		if ok != isText(b) {
			t.Fatalf("%q: %v", b, ok)
		}
		if ok {
			taken++
		}
	}
	if taken < 1000 {
		t.Errorf("only %d texts among the bytes", taken)
	}
}

// isText tells a leaf's text by the library's decoding, and by encoding again what that gives.
func isText(b []byte) bool {
	var n [4]uint64
	rest := b
	for i := range n {
		v, k := binary.Uvarint(rest)
		if k <= 0 {
			return false
		}
		n[i], rest = v, rest[k:]
	}
	return encode(n[0], n[1], n[2], n[3]) == string(b)
}

// P5.2

func TestLockOfTheExample(t *testing.T) {
	o := ideal.New([]uint64{7, 9})
	l := Lock(o, 1, 2, 3, 1, 0, "x")
	sameLeaf(t, "first", l, api.Leaf{Version: 1, Epoch: 0, Nonce: 7, Cipher: 9})
	state(t, "first", o, 2, false)
	if c := o.Seal(1, 7, "\x02\x03\x01\x00", "x"); c != 9 {
		t.Errorf("sealed by hand: %d, want 9", c)
	}
	state(t, "sealed by hand", o, 2, false)
	opens(t, "first", o, 1, place{2, 3, 1, 0}, l, "x")
	sameLeaf(t, "second", Lock(o, 1, 2, 3, 5, 4, "x"), api.Leaf{Version: 5, Epoch: 4, Nonce: past + 2, Cipher: past + 3})
	state(t, "second", o, 4, false)
}

// The oracle ends as one Fresh and one Seal leave it: nothing else was drawn, asked for or met.
func TestLockAsksForOneFreshAndOneSeal(t *testing.T) {
	for _, n := range fours() {
		for _, key := range []uint64{0, 1, most} {
			p := place{n[0], n[1], n[2], n[3]}
			o, twin := twins(7, 9)
			sameLeaf(t, "lock", lock(o, key, p, "x"), api.Leaf{Version: p.version, Epoch: p.epoch, Nonce: 7, Cipher: 9})
			lockByHand(twin, key, p, "x")
			state(t, "lock", o, 2, false)
			alike(t, "lock", o, twin)
		}
	}
}

func TestLockOfEmptyAndLongTexts(t *testing.T) {
	for _, plain := range plains() {
		o, twin := twins(7, 9)
		p := place{2, 3, 1, 0}
		l := lock(o, 1, p, plain)
		sameLeaf(t, "lock", l, lockByHand(twin, 1, p, plain))
		alike(t, "lock", o, twin)
		opens(t, "lock", o, 1, p, l, plain)
		state(t, "lock", o, 2, false)
	}
}

// A lock doesn't meet what it is given: each of these numbers may be drawn later.
func TestLockMeetsNothing(t *testing.T) {
	o := ideal.New([]uint64{70, 90, 1, 2, 3, 4, 5})
	Lock(o, 1, 2, 3, 4, 5, "x")
	for range 5 {
		o.Fresh()
	}
	state(t, "drawn", o, 7, false)
}

// Unlock asks for one Open, which tells of itself by what it meets: the ciphertext that it can't open, and nothing else.
func TestUnlockAsksForOneOpen(t *testing.T) {
	for _, n := range fours() {
		o, twin := twins(7, 9)
		p := place{2, 3, 1, 0}
		l := lock(o, 1, p, "x")
		lockByHand(twin, 1, p, "x")
		opens(t, "locked", o, 1, p, l, "x")
		alike(t, "locked", o, twin)
		shut(t, "another leaf", o, 1, 2, 3, leafOf(n))
		unlockByHand(twin, 1, 2, 3, leafOf(n))
		alike(t, "another leaf", o, twin)
		shut(t, "another place", o, n[0], n[1], n[2], api.Leaf{Version: 1, Nonce: 7, Cipher: n[3]})
		unlockByHand(twin, n[0], n[1], n[2], api.Leaf{Version: 1, Nonce: 7, Cipher: n[3]})
		alike(t, "another place", o, twin)
		state(t, "all", o, 2, false)
	}
}

func TestUnlockMeetsTheCiphertextAlone(t *testing.T) {
	o := ideal.New([]uint64{1, 2, 3, 4, 5, 6, 7})
	shut(t, "nothing locked", o, 1, 2, 3, api.Leaf{Version: 4, Epoch: 5, Nonce: 6, Cipher: 7})
	for range 6 {
		o.Fresh()
	}
	state(t, "the others drawn", o, 6, false)
	o.Fresh()
	state(t, "the ciphertext drawn", o, 7, true)
}

// What was sealed by hand as a lock would have it is unlocked; what the other tables hold is not.
func TestUnlockOpensWhatWasSealed(t *testing.T) {
	o := ideal.New([]uint64{7, 9, 11})
	c := o.Seal(1, 6, "\x02\x03\x04\x05", "x")
	opens(t, "sealed", o, 1, place{2, 3, 4, 5}, api.Leaf{Version: 4, Epoch: 5, Nonce: 6, Cipher: c}, "x")
	h := o.Hash("\x02\x03\x04\x05")
	shut(t, "hashed", o, 1, 2, 3, api.Leaf{Version: 4, Epoch: 5, Nonce: 6, Cipher: h})
	m := o.Mac(1, "\x02\x03\x04\x05")
	shut(t, "tagged", o, 1, 2, 3, api.Leaf{Version: 4, Epoch: 5, Nonce: 6, Cipher: m})
	state(t, "all", o, 3, false)
}

func TestUnlockWhereNothingWasLocked(t *testing.T) {
	for _, n := range fours() {
		o := ideal.New([]uint64{7, 9})
		shut(t, "nothing locked", o, 1, 2, 3, leafOf(n))
		state(t, "nothing locked", o, 0, false)
	}
}

// Random locks and unlocks, in between what else an oracle is asked for, with draws that come twice:
// it goes on as its queries by hand leave it.
func TestSealBesideQueriesByHand(t *testing.T) {
	r := rand.New(rand.NewSource(51))
	small := func() uint64 { return uint64(r.Intn(3)) }
	for range 500 {
		draws := make([]uint64, r.Intn(20))
		for i := range draws {
			draws[i] = uint64(r.Intn(12))
		}
		o, twin := twins(draws...)
		var leaves []api.Leaf
		for range 30 {
			key, p, plain := small(), place{small(), small(), small(), small()}, strings.Repeat("a", r.Intn(2))
			l := api.Leaf{Version: small(), Epoch: small(), Nonce: uint64(r.Intn(12)), Cipher: uint64(r.Intn(12))}
			if len(leaves) > 0 && r.Intn(3) > 0 {
				l = leaves[r.Intn(len(leaves))]
			}
			switch r.Intn(6) {
			case 0:
				o.Meet(l.Cipher)
				twin.Meet(l.Cipher)
			case 1:
				o.Seal(key, l.Nonce, encode(0, 1, 2, 0), plain)
				twin.Seal(key, l.Nonce, encode(0, 1, 2, 0), plain)
			case 2, 3:
				l = lock(o, key, p, plain)
				sameLeaf(t, "lock", l, lockByHand(twin, key, p, plain))
				leaves = append(leaves, l)
			default:
				got, ok := Unlock(o, key, p.volume, p.sector, l)
				want, wantOk := unlockByHand(twin, key, p.volume, p.sector, l)
				if got != want || ok != wantOk {
					t.Fatalf("unlock: %q, %v; want %q, %v", got, ok, want, wantOk)
				}
			}
			alike(t, "random", o, twin)
		}
	}
}

// Nothing is kept from one oracle to the next.
func TestSealOfOracleByOracle(t *testing.T) {
	a, b := ideal.New([]uint64{7, 9}), ideal.New([]uint64{7, 9})
	p := place{2, 3, 1, 0}
	l := lock(a, 1, p, "x")
	shut(t, "the other", b, 1, 2, 3, l)
	opens(t, "one", a, 1, p, l, "x")
	state(t, "the other", b, 0, false)
	sameLeaf(t, "the other", lock(b, 1, p, "y"), l)
	opens(t, "the other", b, 1, p, l, "y")
	opens(t, "one again", a, 1, p, l, "x")
	state(t, "the other, which met its ciphertext", b, 2, true)
	state(t, "one", a, 2, false)
}

// P5.3

// locked is a leaf with what it was locked with.
type locked struct {
	key   uint64
	place place
	plain string
	leaf  api.Leaf
}

// lockMany locks texts at many places, some of them twice with the same text, and some with another one.
func lockMany(o *ideal.Oracle) []locked {
	var all []locked
	for i, n := range fours() {
		p := place{n[0], n[1], n[2], n[3]}
		key := uint64(i % 3)
		for _, plain := range []string{"x", "x", "", strings.Repeat("y", i%50)} {
			all = append(all, locked{key, p, plain, lock(o, key, p, plain)})
		}
	}
	return all
}

func TestWhatWasLockedIsUnlocked(t *testing.T) {
	for _, draws := range [][]uint64{nil, {7, 9}, {most, 1, past - 1, 128, 127}} {
		o := ideal.New(draws)
		all := lockMany(o)
		for range 2 {
			for _, k := range all {
				opens(t, "locked", o, k.key, k.place, k.leaf, k.plain)
			}
		}
		state(t, "all", o, 2*len(all), false)
	}
}

// A leaf that went through its text is the same leaf.
func TestWhatWasLockedIsUnlockedByItsText(t *testing.T) {
	o := ideal.New([]uint64{most, 127, 128, 1})
	for _, k := range lockMany(o) {
		l, ok := Parse(Text(k.leaf))
		if !ok {
			t.Fatalf("%v: no leaf", k.leaf)
		}
		opens(t, "by its text", o, k.key, k.place, l, k.plain)
	}
}

func TestNonceAndCiphertextAreNeverTheSame(t *testing.T) {
	for _, draws := range [][]uint64{nil, {7, 9}, {most, 1, past - 1, 128, 127}} {
		o := ideal.New(draws)
		seen := map[uint64]api.Leaf{}
		for _, k := range lockMany(o) {
			for _, v := range []uint64{k.leaf.Nonce, k.leaf.Cipher} {
				if other, ok := seen[v]; ok {
					t.Fatalf("%v and %v share %d", other, k.leaf, v)
				}
				seen[v] = k.leaf
			}
		}
		state(t, "all", o, len(seen), false)
	}
}

func TestTwoLocksOfOneText(t *testing.T) {
	o := ideal.New([]uint64{7, 9, 11, 13})
	p := place{2, 3, 1, 0}
	a, b := lock(o, 1, p, "x"), lock(o, 1, p, "x")
	sameLeaf(t, "first", a, api.Leaf{Version: 1, Nonce: 7, Cipher: 9})
	sameLeaf(t, "second", b, api.Leaf{Version: 1, Nonce: 11, Cipher: 13})
	opens(t, "second", o, 1, p, b, "x")
	opens(t, "first", o, 1, p, a, "x")
	a.Nonce, b.Nonce = b.Nonce, a.Nonce
	shut(t, "nonces exchanged", o, 1, 2, 3, a)
	shut(t, "nonces exchanged", o, 1, 2, 3, b)
	state(t, "both", o, 4, false)
}

// The leaf of a lock is held against every number of the edges, and its own neighbours, in each place of the seven.
func TestAnotherNumberDoesNotUnlock(t *testing.T) {
	for _, plain := range []string{"", "x"} {
		o := ideal.New([]uint64{70, 90, 71, 91, 70 << 8})
		right := [7]uint64{20, 40, 30, 10, 50}
		l := Lock(o, right[0], right[1], right[2], right[3], right[4], plain)
		right[5], right[6] = l.Nonce, l.Cipher
		further := Lock(o, 20, 40, 30, 11, 50, plain)
		for at := range right {
			for _, n := range slices.Concat(numbers(), right[:], []uint64{right[at] - 1, right[at] + 1, further.Nonce, further.Cipher}) {
				w := right
				w[at] = n
				if w == right {
					continue
				}
				shut(t, "another number", o, w[0], w[1], w[2], api.Leaf{Version: w[3], Epoch: w[4], Nonce: w[5], Cipher: w[6]})
			}
		}
		for i := range right {
			for k := range i {
				w := right
				w[i], w[k] = w[k], w[i]
				shut(t, "exchanged", o, w[0], w[1], w[2], api.Leaf{Version: w[3], Epoch: w[4], Nonce: w[5], Cipher: w[6]})
			}
		}
		opens(t, "the right ones", o, 20, place{40, 30, 10, 50}, l, plain)
		state(t, "all", o, 4, false)
	}
}

// No leaf of many is unlocked with what another one was locked with, unless all of it is the same.
func TestOtherPlacesDoNotUnlock(t *testing.T) {
	o := ideal.New([]uint64{7, 9})
	all := lockMany(o)
	r := rand.New(rand.NewSource(53))
	for range 50000 {
		a, b := all[r.Intn(len(all))], all[r.Intn(len(all))]
		if a.key == b.key && a.place.volume == b.place.volume && a.place.sector == b.place.sector {
			opens(t, "the same key and place", o, b.key, b.place, a.leaf, a.plain)
			continue
		}
		shut(t, "another key or place", o, b.key, b.place.volume, b.place.sector, a.leaf)
	}
	state(t, "all", o, 2*len(all), false)
}

// A nonce that is drawn twice: the same text at the same place is the query of before, and draws no ciphertext.
func TestANonceDrawnTwice(t *testing.T) {
	o := ideal.New([]uint64{7, 9, 7, 7, 11, 7, 13})
	p, other := place{2, 3, 1, 0}, place{2, 4, 1, 0}
	a := lock(o, 1, p, "x")
	state(t, "once", o, 2, false)
	sameLeaf(t, "the same text", lock(o, 1, p, "x"), a)
	state(t, "the same text", o, 3, true)
	b := lock(o, 1, p, "y")
	sameLeaf(t, "another text", b, api.Leaf{Version: 1, Nonce: 7, Cipher: 11})
	state(t, "another text", o, 5, true)
	c := lock(o, 1, other, "x")
	sameLeaf(t, "another place", c, api.Leaf{Version: 1, Nonce: 7, Cipher: 13})
	state(t, "another place", o, 7, true)
	opens(t, "the first", o, 1, p, a, "x")
	opens(t, "another text", o, 1, p, b, "y")
	opens(t, "another place", o, 1, other, c, "x")
	shut(t, "the first at another place", o, 1, 2, 4, a)
}

// Where nonce and ciphertext both come again, one leaf stands for two texts: it opens to the first of them.
func TestANonceAndACiphertextDrawnTwice(t *testing.T) {
	o := ideal.New([]uint64{7, 9, 7, 9, 7, 9})
	p, other := place{2, 3, 1, 0}, place{2, 4, 1, 0}
	a := lock(o, 1, p, "x")
	sameLeaf(t, "another text", lock(o, 1, p, "y"), a)
	opens(t, "another text", o, 1, p, a, "x")
	shut(t, "at another place", o, 1, 2, 4, a)
	sameLeaf(t, "another place", lock(o, 1, other, "y"), a)
	opens(t, "another place", o, 1, other, a, "y")
	opens(t, "the first place", o, 1, p, a, "x")
	state(t, "all", o, 6, true)
}

func TestANonceDrawnAsACiphertext(t *testing.T) {
	o := ideal.New([]uint64{7, 7})
	p := place{2, 3, 1, 0}
	l := lock(o, 1, p, "x")
	sameLeaf(t, "one value", l, api.Leaf{Version: 1, Nonce: 7, Cipher: 7})
	opens(t, "one value", o, 1, p, l, "x")
	state(t, "one value", o, 2, true)
}

// A drawn 0 is a bad event, and a nonce or a ciphertext all the same.
func TestADrawnZero(t *testing.T) {
	o := ideal.New([]uint64{0, 0, 0, 9})
	p := place{0, 0, 0, 0}
	l := lock(o, 0, p, "x")
	sameLeaf(t, "both 0", l, api.Leaf{})
	opens(t, "both 0", o, 0, p, l, "x")
	l = lock(o, 0, p, "y")
	sameLeaf(t, "nonce 0", l, api.Leaf{Cipher: 9})
	opens(t, "nonce 0", o, 0, p, l, "y")
	state(t, "all", o, 4, true)
}

// A leaf that was made up, and met, opens once a lock draws just its numbers.
func TestAMetCiphertextIsDrawn(t *testing.T) {
	o := ideal.New([]uint64{7, 9, 11, 13})
	p := place{2, 3, 1, 0}
	made := api.Leaf{Version: 1, Nonce: 7, Cipher: 9}
	shut(t, "made up", o, 1, 2, 3, made)
	state(t, "made up", o, 0, false)
	sameLeaf(t, "locked", lock(o, 1, p, "x"), made)
	state(t, "locked", o, 2, true)
	opens(t, "locked", o, 1, p, made, "x")
	l := lock(o, 1, p, "y")
	opens(t, "the next", o, 1, p, l, "y")
	state(t, "the next", o, 4, true)
}

// A nonce that was met before it is drawn is a bad event too; the leaf is no other.
func TestAMetNonceIsDrawn(t *testing.T) {
	o := ideal.New([]uint64{7, 9})
	p := place{2, 3, 1, 0}
	o.Meet(7)
	l := lock(o, 1, p, "x")
	sameLeaf(t, "locked", l, api.Leaf{Version: 1, Nonce: 7, Cipher: 9})
	opens(t, "locked", o, 1, p, l, "x")
	shut(t, "at another place", o, 1, 2, 4, l)
	state(t, "all", o, 2, true)
}
