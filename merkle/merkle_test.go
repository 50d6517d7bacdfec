package merkle

import (
	"countersign/ideal"
	"encoding/binary"
	"fmt"
	"math"
	"math/rand"
	"reflect"
	"slices"
	"strings"
	"testing"
)

const (
	past  = uint64(1) << 63
	most  = uint64(math.MaxUint64)
	depth = 8
)

// hashLeaf and hashNode ask for the texts of the document's words, with the library's encoding of a number in wire's place.
func hashLeaf(o *ideal.Oracle, s string) uint64 {
	return o.Hash("leaf" + s)
}

func hashNode(o *ideal.Oracle, a, b uint64) uint64 {
	s := binary.AppendUvarint([]byte("node"), a)
	return o.Hash(string(binary.AppendUvarint(s, b)))
}

// buildByHand asks for each value in the order of the document.
func buildByHand(o *ideal.Oracle, d int, leaves []string) [][]uint64 {
	tree := make([][]uint64, d+1)
	for i := 0; i < 1<<d; i++ {
		s := ""
		if i < len(leaves) {
			s = leaves[i]
		}
		tree[0] = append(tree[0], hashLeaf(o, s))
	}
	for k := 1; k <= d; k++ {
		for i := 0; i < len(tree[k-1]); i += 2 {
			tree[k] = append(tree[k], hashNode(o, tree[k-1][i], tree[k-1][i+1]))
		}
	}
	return tree
}

// climbByHand goes up by the index's own arithmetic: an even index has its neighbour to the right.
func climbByHand(o *ideal.Oracle, s string, i int, path []uint64) uint64 {
	h := hashLeaf(o, s)
	for _, v := range path {
		if i%2 == 1 {
			h = hashNode(o, v, h)
		} else {
			h = hashNode(o, h, v)
		}
		i /= 2
	}
	return h
}

// pathByHand takes from each level but the highest the other one of a pair.
func pathByHand(tree [][]uint64, i int) []uint64 {
	var path []uint64
	for _, level := range tree[:len(tree)-1] {
		if i%2 == 0 {
			path = append(path, level[i+1])
		} else {
			path = append(path, level[i-1])
		}
		i /= 2
	}
	return path
}

// twins returns two oracles of the same draws.
func twins(draws ...uint64) (*ideal.Oracle, *ideal.Oracle) {
	return ideal.New(draws), ideal.New(draws)
}

// state asks for what an oracle tells of itself.
func state(t *testing.T, name string, o *ideal.Oracle, drawn int, bad bool) {
	t.Helper()
	if o.Drawn() != drawn || o.Bad() != bad {
		t.Errorf("%s: %d drawn, bad %v; want %d, %v", name, o.Drawn(), o.Bad(), drawn, bad)
	}
}

// alike holds two oracles against each other, with all that they keep.
func alike(t *testing.T, name string, o, twin *ideal.Oracle) {
	t.Helper()
	if !reflect.DeepEqual(o, twin) {
		t.Errorf("%s: the oracle is not as its queries by hand leave it", name)
	}
}

func equal(a, b [][]uint64) bool {
	return slices.EqualFunc(a, b, slices.Equal)
}

func sameTree(t *testing.T, name string, got [][]uint64, ok bool, want [][]uint64) {
	t.Helper()
	if !equal(got, want) || !ok {
		t.Errorf("%s: %v, %v; want %v, true", name, got, ok, want)
	}
}

func noTree(t *testing.T, name string, got [][]uint64, ok bool) {
	t.Helper()
	if len(got) != 0 || ok {
		t.Errorf("%s: %v, %v; want no tree, false", name, got, ok)
	}
}

func samePath(t *testing.T, name string, tree [][]uint64, i int, want ...uint64) {
	t.Helper()
	got, ok := Path(tree, i)
	if !slices.Equal(got, want) || !ok {
		t.Errorf("%s: %v, %v; want %v, true", name, got, ok, want)
	}
}

func noPath(t *testing.T, name string, tree [][]uint64, i int) {
	t.Helper()
	if got, ok := Path(tree, i); len(got) != 0 || ok {
		t.Errorf("%s: %v, %v; want no path, false", name, got, ok)
	}
}

func climbs(t *testing.T, name string, o *ideal.Oracle, s string, i int, path []uint64, want uint64) {
	t.Helper()
	if got, ok := Climb(o, s, i, path); got != want || !ok {
		t.Errorf("%s: %d, %v; want %d, true", name, got, ok, want)
	}
}

// astray asks for another root than this one.
func astray(t *testing.T, name string, o *ideal.Oracle, s string, i int, path []uint64, root uint64) {
	t.Helper()
	if got, ok := Climb(o, s, i, path); got == root || !ok {
		t.Errorf("%s: %d, %v; want another root than %d, true", name, got, ok, root)
	}
}

// build is for trees that are there.
func build(t *testing.T, o *ideal.Oracle, d int, leaves []string) [][]uint64 {
	t.Helper()
	tree, ok := Build(o, d, leaves)
	if !ok {
		t.Fatalf("no tree of depth %d with %d leaves", d, len(leaves))
	}
	return tree
}

func root(tree [][]uint64) uint64 {
	return tree[len(tree)-1][0]
}

func copied(tree [][]uint64) [][]uint64 {
	var to [][]uint64
	for _, level := range tree {
		to = append(to, slices.Clone(level))
	}
	return to
}

// texts returns n leaves that differ, and that look like what is hashed.
func texts(n int) []string {
	l := []string{"a", "\x00", "leaf", "node", "node\x05\x06", "\xff\x80", "leafa", strings.Repeat("x", 1000)}
	for i := range n {
		l = append(l, fmt.Sprintf("text %d", i))
	}
	return l[:n]
}

// counts are how many leaves a tree of a depth is tried with.
func counts(d int) []int {
	l := []int{0, 1, 2, 3, 1<<d/2 - 1, 1 << d / 2, 1<<d/2 + 1, 1<<d - 1, 1 << d}
	slices.Sort(l)
	l = slices.Compact(l)
	return slices.DeleteFunc(l, func(n int) bool { return n < 0 || n > 1<<d })
}

// counting returns a tree of the right shape of numbers that no oracle drew.
func counting(d int) [][]uint64 {
	var tree [][]uint64
	n := uint64(100)
	for k := d; k >= 0; k-- {
		var level []uint64
		for range 1 << k {
			level = append(level, n)
			n++
		}
		tree = append(tree, level)
	}
	return tree
}

// The words

func TestLeafIsTheHashOfItsText(t *testing.T) {
	for _, s := range append(texts(20), "") {
		o, twin := twins(7, 9)
		if h := Leaf(o, s); h != 7 {
			t.Errorf("%.20q: %d, want 7", s, h)
		}
		hashLeaf(twin, s)
		alike(t, "once", o, twin)
		if h := Leaf(o, s); h != 7 {
			t.Errorf("%.20q again: %d, want 7", s, h)
		}
		state(t, "again", o, 1, false)
	}
}

func TestNodeIsTheHashOfTwoNumbersInTheirOrder(t *testing.T) {
	for s, n := range map[string][2]uint64{
		"node\x00\x00":         {0, 0},
		"node\x05\x06":         {5, 6},
		"node\x06\x05":         {6, 5},
		"node\x7f\x80\x01":     {127, 128},
		"node\x80\x01\x7f":     {128, 127},
		"node\xac\x02\xff\x7f": {300, 16383},
		"node" + strings.Repeat("\x80", 9) + "\x01\x01":                            {past, 1},
		"node" + strings.Repeat(strings.Repeat("\xff", 9)+"\x01", 2):               {most, most},
		"node\x00" + strings.Repeat("\xff", 9) + "\x01":                            {0, most},
		"node\xfe" + strings.Repeat("\xff", 8) + "\x01\x80\x80\x01":                {most - 1, 16384},
		"node" + strings.Repeat("\xff", 8) + "\x7f" + "\x80\x80\x80\x80\x80\x20":   {past - 1, 1 << 40},
		"node\x80\x80\x80\x80\x80\x20" + strings.Repeat("\x80", 9) + "\x01":        {1 << 40, past},
		"node\x81\x80\x80\x80\x80\x80\x80\x80\x80\x01\xff\xff\xff\xff\xff\xff\x7f": {past + 1, 1<<49 - 1},
	} {
		o, twin := twins(7, 9)
		if h := Node(o, n[0], n[1]); h != 7 {
			t.Errorf("%v: %d, want 7", n, h)
		}
		twin.Hash(s)
		alike(t, fmt.Sprint(n), o, twin)
		Node(o, n[0], n[1])
		state(t, "again", o, 1, false)
	}
}

// No leaf is a node, and no two nodes are one, whatever their numbers are.
func TestLeafAndNodeOfManyTextsDiffer(t *testing.T) {
	o := ideal.New(nil)
	some := []uint64{0, 1, 5, 127, 128, 129, 16383, 16384, past - 1, past, most - 1, most}
	drawn := 0
	for _, a := range some {
		for _, b := range some {
			Node(o, a, b)
			Leaf(o, fmt.Sprintf("%d %d", a, b))
			Leaf(o, "node"+string(binary.AppendUvarint(binary.AppendUvarint(nil, a), b)))
			drawn += 3
		}
	}
	Leaf(o, "")
	state(t, "all", o, drawn+1, false)
}

// P6.1

func TestBuildOfTheExamples(t *testing.T) {
	o := ideal.New([]uint64{5, 6, 7})
	tree, ok := Build(o, 1, []string{"a"})
	sameTree(t, "depth 1", tree, ok, [][]uint64{{5, 6}, {7}})
	state(t, "depth 1", o, 3, false)
	o = ideal.New([]uint64{5})
	tree, ok = Build(o, 0, []string{"a"})
	sameTree(t, "depth 0", tree, ok, [][]uint64{{5}})
	state(t, "depth 0", o, 1, false)
	if o.Hash("leafa") != 5 {
		t.Error("depth 0: the value is not the leaf's")
	}
}

func TestBuildGoesLevelByLevel(t *testing.T) {
	o := ideal.New(nil)
	tree, ok := Build(o, 2, []string{"a", "b", "c"})
	sameTree(t, "three leaves", tree, ok, [][]uint64{{past, past + 1, past + 2, past + 3}, {past + 4, past + 5}, {past + 6}})
	for i, s := range []string{"leafa", "leafb", "leafc", "leaf"} {
		if h := o.Hash(s); h != past+uint64(i) {
			t.Errorf("%s: %d", s, h)
		}
	}
	state(t, "three leaves", o, 7, false)
}

func TestBuildOfEachDepth(t *testing.T) {
	for d := range depth + 1 {
		for _, n := range counts(d) {
			name := fmt.Sprintf("depth %d, %d leaves", d, n)
			o, twin := twins(7, 9, 11)
			leaves := texts(n)
			tree, ok := Build(o, d, leaves)
			sameTree(t, name, tree, ok, buildByHand(twin, d, leaves))
			alike(t, name, o, twin)
			if !slices.Equal(leaves, texts(n)) {
				t.Error(name, "changed the leaves")
			}
			if len(tree) != d+1 {
				t.Fatal(name, len(tree))
			}
			for k, level := range tree {
				if len(level) != 1<<(d-k) {
					t.Error(name, k, len(level))
				}
			}
		}
	}
}

// Where leaves are the same, so are the nodes above them, and nothing more is drawn for these.
func TestBuildOfTheSameLeaves(t *testing.T) {
	for d := range depth + 1 {
		o := ideal.New(nil)
		tree := build(t, o, d, nil)
		state(t, "none", o, d+1, false)
		for k, level := range tree {
			for _, h := range level {
				if h != past+uint64(k) {
					t.Errorf("depth %d: %d at level %d", d, h, k)
				}
			}
		}
		sameTree(t, "empty texts", build(t, o, d, make([]string, 1<<d)), true, tree)
		state(t, "empty texts", o, d+1, false)
		all := slices.Repeat([]string{"same"}, 1<<d)
		build(t, o, d, all)
		state(t, "a text", o, 2*(d+1), false)
	}
	o := ideal.New(nil)
	tree := build(t, o, 2, []string{"a", "b", "a", "b"})
	sameTree(t, "halves", tree, true, [][]uint64{{past, past + 1, past, past + 1}, {past + 2, past + 2}, {past + 3}})
	tree = build(t, o, 2, []string{"a", "b", "b", "a"})
	sameTree(t, "turned", tree, true, [][]uint64{{past, past + 1, past + 1, past}, {past + 2, past + 4}, {past + 5}})
}

func TestBuildOfADepthThatIsNone(t *testing.T) {
	for _, d := range []int{-1, -2, -8, 9, 10, 62, 63, 64, 65, math.MaxInt, math.MinInt} {
		for _, leaves := range [][]string{nil, {}, {"a"}, texts(300)} {
			o, twin := twins(7)
			tree, ok := Build(o, d, leaves)
			noTree(t, fmt.Sprintf("depth %d", d), tree, ok)
			alike(t, "no query", o, twin)
		}
	}
}

func TestBuildOfTooManyLeaves(t *testing.T) {
	for d := range depth + 1 {
		for _, n := range []int{1<<d + 1, 1<<d + 2, 2<<d + 1, 1000} {
			o, twin := twins(7)
			tree, ok := Build(o, d, texts(n))
			noTree(t, fmt.Sprintf("depth %d, %d leaves", d, n), tree, ok)
			alike(t, "no query", o, twin)
		}
	}
}

// Each level has memory of its own: to write over one, or behind it, changes no other.
func TestBuildSharesNoMemory(t *testing.T) {
	o := ideal.New(nil)
	tree := build(t, o, 3, texts(5))
	want := copied(tree)
	for k := range tree {
		for i := range tree[k] {
			tree[k][i] = 1
		}
		_ = append(tree[k], 2, 2, 2)
		for rest := k + 1; rest < len(tree); rest++ {
			if !slices.Equal(tree[rest], want[rest]) {
				t.Errorf("level %d changed with level %d", rest, k)
			}
		}
	}
	sameTree(t, "again", build(t, o, 3, texts(5)), true, want)
}

// P6.2

func fits(t *testing.T, name string, o *ideal.Oracle, tree [][]uint64, want bool) {
	t.Helper()
	was := copied(tree)
	if Fits(o, tree) != want {
		t.Errorf("%s: fits %v, want %v", name, !want, want)
	}
	if !equal(tree, was) {
		t.Errorf("%s: the tree was changed", name)
	}
}

func TestFitsOfBuiltTrees(t *testing.T) {
	for d := range depth + 1 {
		for _, n := range counts(d) {
			o, twin := twins(7, 9, 11)
			tree := build(t, o, d, texts(n))
			buildByHand(twin, d, texts(n))
			fits(t, fmt.Sprintf("depth %d, %d leaves", d, n), o, tree, true)
			alike(t, "nothing new", o, twin)
		}
	}
}

// A new oracle is asked for as many nodes as the document says, up to the first that is wrong.
func TestFitsAsksUpToTheFirstWrongValue(t *testing.T) {
	for d := range 5 {
		right := make([]uint64, 0, 1<<d)
		for i := range 1<<d - 1 {
			right = append(right, uint64(1000+i))
		}
		tree := fittingNodes(d)
		o := ideal.New(right)
		fits(t, "right", o, tree, true)
		state(t, "right", o, 1<<d-1, false)
		asked := 0
		for k := 1; k <= d; k++ {
			for i := range tree[k] {
				asked++
				wrong := copied(tree)
				wrong[k][i] += 5000
				o, twin := twins(right...)
				fits(t, fmt.Sprintf("depth %d, wrong at %d of level %d", d, i, k), o, wrong, false)
				askByHand(twin, wrong, asked)
				alike(t, "as many as right", o, twin)
				state(t, "as many as right", o, asked, false)
			}
		}
	}
}

// fittingNodes returns a tree that fits an oracle that draws 1000, 1001 and so on, with a lowest level of numbers that it did not draw.
func fittingNodes(d int) [][]uint64 {
	tree := counting(d)
	n := uint64(1000)
	for k := 1; k <= d; k++ {
		for i := range tree[k] {
			tree[k][i] = n
			n++
		}
	}
	return tree
}

// askByHand asks for the first n nodes of a tree.
func askByHand(o *ideal.Oracle, tree [][]uint64, n int) {
	for k := 0; k+1 < len(tree); k++ {
		for i := range tree[k+1] {
			if n == 0 {
				return
			}
			n--
			hashNode(o, tree[k][2*i], tree[k][2*i+1])
		}
	}
}

func TestFitsOfATreeWithOneValueChanged(t *testing.T) {
	for _, d := range []int{1, 2, 3, 5, 8} {
		o := ideal.New(nil)
		tree := build(t, o, d, texts(1<<d))
		for k := range tree {
			for _, i := range counts(d - k) {
				if i == len(tree[k]) {
					continue
				}
				for _, other := range []uint64{0, 1, tree[k][i] - 1, tree[k][i] + 1, most, tree[0][0] + 99999} {
					wrong := copied(tree)
					wrong[k][i] = other
					fits(t, fmt.Sprintf("depth %d, %d at %d of level %d", d, other, i, k), o, wrong, false)
				}
			}
		}
		for k := range d {
			for i := 1; i < len(tree[k]); i++ {
				wrong := copied(tree)
				wrong[k][0], wrong[k][i] = wrong[k][i], wrong[k][0]
				fits(t, fmt.Sprintf("depth %d, exchanged at level %d", d, k), o, wrong, false)
			}
		}
		fits(t, "as it was", o, tree, true)
	}
}

// A tree of depth 0 has no node: whatever its value is, it fits, and nothing is asked for.
func TestFitsOfDepth0(t *testing.T) {
	for _, n := range []uint64{0, 1, 7, past, most} {
		o, twin := twins(7)
		fits(t, "depth 0", o, [][]uint64{{n}}, true)
		alike(t, "no query", o, twin)
	}
}

// wrongShapes are trees of no right shape, each with a name.
func wrongShapes() map[string][][]uint64 {
	all := map[string][][]uint64{
		"no level":           nil,
		"no level, not nil":  {},
		"an empty level":     {nil},
		"two empty levels":   {{}, {}},
		"nine empty levels":  make([][]uint64, 9),
		"two values":         {{5, 6}},
		"three and one":      {{5, 6, 8}, {7}},
		"one and one":        {{5}, {7}},
		"upside down":        {{7}, {5, 6}},
		"none above two":     {{5, 6}, {}},
		"one above none":     {{}, {7}},
		"depth 9":            counting(9),
		"depth 10":           counting(10),
		"a hundred":          make([][]uint64, 100),
		"a hundred of one":   slices.Repeat([][]uint64{{1}}, 100),
		"no root of depth 8": counting(8)[:8],
		"no leaf of depth 9": counting(9)[1:9],
		"two of nine left":   counting(9)[:2],
	}
	for d := range depth + 1 {
		for k := range d + 1 {
			name := fmt.Sprintf("depth %d, level %d", d, k)
			short := counting(d)
			short[k] = short[k][1:]
			all[name+" too short"] = short
			long := counting(d)
			long[k] = append(long[k], 1)
			all[name+" too long"] = long
			double := counting(d)
			double[k] = append(double[k], double[k]...)
			all[name+" twice as long"] = double
			empty := counting(d)
			empty[k] = nil
			all[name+" empty"] = empty
			all[name+" left out"] = leftOut(counting(d), k)
			if d > 0 {
				all[name+" twice"] = slices.Insert(counting(d), k, counting(d)[k])
			}
		}
		all[fmt.Sprintf("depth %d, one level too many", d)] = append(counting(d), []uint64{1})
		all[fmt.Sprintf("depth %d, an empty level too many", d)] = append(counting(d), nil)
		all[fmt.Sprintf("depth %d, an empty level below", d)] = slices.Insert(counting(d), 0, []uint64{})
	}
	return all
}

// leftOut returns a tree without one of its levels; without its lowest one it would be a tree again, so that one is emptied.
func leftOut(tree [][]uint64, k int) [][]uint64 {
	if k == 0 {
		tree[0] = nil
		return tree
	}
	return slices.Delete(tree, k, k+1)
}

func TestFitsOfWrongShapes(t *testing.T) {
	for name, tree := range wrongShapes() {
		o, twin := twins(7)
		fits(t, name, o, tree, false)
		alike(t, name+": no query", o, twin)
	}
}

// A value that is too many or too few does not fit even where all the others are right.
func TestFitsOfABuiltTreeWithAWrongLevel(t *testing.T) {
	for d := range depth + 1 {
		o := ideal.New(nil)
		tree := build(t, o, d, texts(1<<d))
		drawn := o.Drawn()
		for k := range tree {
			wrong := copied(tree)
			wrong[k] = append(wrong[k], wrong[k][0])
			fits(t, "one more", o, wrong, false)
			wrong = copied(tree)
			wrong[k] = wrong[k][:len(wrong[k])-1]
			fits(t, "one less", o, wrong, false)
		}
		fits(t, "cut", o, tree[:d], false)
		above := []uint64{Node(o, root(tree), root(tree))}
		drawn++
		fits(t, "one level more", o, append(copied(tree), above), false)
		state(t, "no further query", o, drawn, false)
	}
}

func TestPathOfTheExample(t *testing.T) {
	tree := [][]uint64{{5, 6}, {7}}
	samePath(t, "left", tree, 0, 6)
	samePath(t, "right", tree, 1, 5)
	samePath(t, "depth 0", [][]uint64{{5}}, 0)
	deep := [][]uint64{{1, 2, 3, 4, 5, 6, 7, 8}, {11, 12, 13, 14}, {21, 22}, {31}}
	samePath(t, "0 of 8", deep, 0, 2, 12, 22)
	samePath(t, "1 of 8", deep, 1, 1, 12, 22)
	samePath(t, "2 of 8", deep, 2, 4, 11, 22)
	samePath(t, "3 of 8", deep, 3, 3, 11, 22)
	samePath(t, "4 of 8", deep, 4, 6, 14, 21)
	samePath(t, "5 of 8", deep, 5, 5, 14, 21)
	samePath(t, "6 of 8", deep, 6, 8, 13, 21)
	samePath(t, "7 of 8", deep, 7, 7, 13, 21)
}

// Path asks for the shape alone: the values may be any.
func TestPathOfEachIndex(t *testing.T) {
	for d := range depth + 1 {
		tree := counting(d)
		for i := range 1 << d {
			samePath(t, fmt.Sprintf("depth %d, index %d", d, i), tree, i, pathByHand(tree, i)...)
		}
		if !equal(tree, counting(d)) {
			t.Errorf("depth %d: the tree was changed", d)
		}
		for _, i := range []int{-1, -2, math.MinInt, 1 << d, 1<<d + 1, 2 << d, 1 << 40, math.MaxInt} {
			noPath(t, fmt.Sprintf("depth %d, index %d", d, i), tree, i)
		}
	}
}

func TestPathOfWrongShapes(t *testing.T) {
	for name, tree := range wrongShapes() {
		for _, i := range []int{0, 1, -1, 2, 255, 256, 512, math.MaxInt, math.MinInt} {
			noPath(t, name, tree, i)
		}
	}
}

func TestPathSharesNoMemory(t *testing.T) {
	tree := counting(3)
	path, _ := Path(tree, 5)
	other, _ := Path(tree, 5)
	for k := range path {
		path[k] = 1
	}
	_ = append(path, 1, 1, 1)
	if !equal(tree, counting(3)) || !slices.Equal(other, pathByHand(tree, 5)) {
		t.Error("a path shares memory", tree, other)
	}
	for k := range tree {
		clear(tree[k])
	}
	if !slices.Equal(other, pathByHand(counting(3), 5)) {
		t.Error("a path changed with its tree")
	}
}

// P6.3

func TestClimbByHand(t *testing.T) {
	path := []uint64{0, 127, 128, 5, past, most, 16384, 9}
	for n := range len(path) + 1 {
		for i := range 1 << n {
			for _, s := range []string{"", "a"} {
				name := fmt.Sprintf("%q from %d by %d values", s, i, n)
				o, twin := twins(70, 90, 110)
				climbs(t, name, o, s, i, path[:n], climbByHand(twin, s, i, path[:n]))
				alike(t, name, o, twin)
				state(t, name, o, n+1, false)
			}
		}
	}
	if !slices.Equal(path, []uint64{0, 127, 128, 5, past, most, 16384, 9}) {
		t.Error("the path was changed")
	}
}

func TestClimbOfTheExample(t *testing.T) {
	o := ideal.New([]uint64{5, 6, 7})
	tree := build(t, o, 1, []string{"a"})
	climbs(t, "left", o, "a", 0, []uint64{6}, 7)
	climbs(t, "right", o, "", 1, []uint64{5}, 7)
	climbs(t, "depth 0", o, "a", 0, nil, 5)
	climbs(t, "depth 0", o, "", 0, []uint64{}, 6)
	state(t, "all", o, 3, false)
	astray(t, "another leaf", o, "b", 0, []uint64{6}, root(tree))
	state(t, "another leaf", o, 5, false)
}

func TestClimbFromAnIndexThatIsNone(t *testing.T) {
	path := []uint64{1, 2, 3, 4, 5, 6, 7, 8}
	for n := range len(path) + 1 {
		for _, i := range []int{-1, -2, math.MinInt, math.MinInt + 1, 1 << n, 1<<n + 1, 2 << n, 256, 1 << 40, math.MaxInt} {
			noRoot(t, i, path[:n])
		}
	}
}

func TestClimbByAPathThatIsTooLong(t *testing.T) {
	for _, n := range []int{9, 10, 31, 32, 62, 63, 64, 65, 128, 1 << 16} {
		for _, i := range []int{0, 1, -1, 255, 256, 511, 512, math.MaxInt, math.MinInt} {
			noRoot(t, i, make([]uint64, n))
		}
	}
}

func noRoot(t *testing.T, i int, path []uint64) {
	t.Helper()
	for _, s := range []string{"", "a"} {
		o, twin := twins(7)
		if h, ok := Climb(o, s, i, path); h != 0 || ok {
			t.Errorf("from %d by %d values: %d, %v; want 0, false", i, len(path), h, ok)
		}
		alike(t, "no query", o, twin)
	}
}

func set(t *testing.T, o *ideal.Oracle, tree [][]uint64, i int, s string) [][]uint64 {
	t.Helper()
	was := copied(tree)
	to, ok := Set(o, tree, i, s)
	if !ok {
		t.Errorf("index %d: not set", i)
	}
	if !equal(tree, was) {
		t.Errorf("index %d: the tree that was handed in was changed", i)
	}
	return to
}

// setByHand asks for the leaf, and for the nodes above it, from the lowest one on.
func setByHand(o *ideal.Oracle, tree [][]uint64, i int, s string) [][]uint64 {
	to := copied(tree)
	to[0][i] = hashLeaf(o, s)
	for k := 1; k < len(to); k++ {
		i /= 2
		to[k][i] = hashNode(o, to[k-1][2*i], to[k-1][2*i+1])
	}
	return to
}

func TestSetYieldsWhatBuildYields(t *testing.T) {
	for d := range depth + 1 {
		for _, n := range []int{0, 1, 1 << d / 2, 1 << d} {
			o := ideal.New(nil)
			leaves := texts(n)
			tree := build(t, o, d, leaves)
			all := append(slices.Clone(leaves), make([]string, 1<<d-n)...)
			for i := range 1 << d {
				for _, s := range []string{"", "new", all[i], all[0]} {
					changed := slices.Clone(all)
					changed[i] = s
					to := set(t, o, tree, i, s)
					drawn := o.Drawn()
					sameTree(t, fmt.Sprintf("depth %d, %d leaves, index %d", d, n, i), to, true, build(t, o, d, changed))
					fits(t, "set", o, to, true)
					state(t, "nothing new", o, drawn, false)
				}
			}
		}
	}
}

func TestSetAsksForTheLeafAndForWhatIsAboveIt(t *testing.T) {
	for d := range depth + 1 {
		for _, i := range counts(d) {
			if i == 1<<d {
				continue
			}
			o, twin := twins(7, 9, 11)
			tree := build(t, o, d, texts(1<<d))
			buildByHand(twin, d, texts(1<<d))
			to := set(t, o, tree, i, "new")
			sameTree(t, "built", to, true, setByHand(twin, tree, i, "new"))
			alike(t, "built", o, twin)
			state(t, "built", o, 2<<d-1+d+1, false)
			sameTree(t, "back", set(t, o, to, i, texts(1 << d)[i]), true, tree)
			alike(t, "back", o, twin)
		}
	}
}

// Set asks for the shape alone: a value that fits nothing stays, unless it lies above the leaf.
func TestSetLeavesAllOthersAlone(t *testing.T) {
	for d := range depth + 1 {
		for i := range 1 << d {
			name := fmt.Sprintf("depth %d, index %d", d, i)
			o, twin := twins()
			tree := counting(d)
			to := set(t, o, tree, i, "new")
			sameTree(t, name, to, true, setByHand(twin, tree, i, "new"))
			alike(t, name, o, twin)
			state(t, name, o, d+1, false)
			for k := range tree {
				for at := range tree[k] {
					if (to[k][at] == tree[k][at]) == (at == i>>k) {
						t.Fatalf("%s: %d at %d of level %d", name, to[k][at], at, k)
					}
				}
			}
		}
	}
}

func TestSetSharesNoMemory(t *testing.T) {
	o := ideal.New(nil)
	tree := build(t, o, 3, texts(5))
	was := copied(tree)
	to := set(t, o, tree, 2, "new")
	want := copied(to)
	for k := range to {
		for i := range to[k] {
			to[k][i] = 1
		}
		_ = append(to[k], 2, 2, 2)
		for rest := k + 1; rest < len(to); rest++ {
			if !slices.Equal(to[rest], want[rest]) {
				t.Errorf("level %d changed with level %d", rest, k)
			}
		}
	}
	sameTree(t, "handed in", tree, true, was)
	to = set(t, o, tree, 2, "new")
	for k := range tree {
		clear(tree[k])
		tree[k] = nil
	}
	sameTree(t, "result", to, true, want)
}

// A level that lies in the memory of another one, or has room behind it, is handled like any other.
func TestSetOfLevelsThatShareMemory(t *testing.T) {
	o, twin := twins()
	one := []uint64{1, 2, 3, 4, 5, 6, 7, 8}
	tree := [][]uint64{one[:4], one[2:4], one[3:4]}
	want := setByHand(twin, tree, 3, "a")
	sameTree(t, "shared", set(t, o, tree, 3, "a"), true, want)
	if !slices.Equal(one, []uint64{1, 2, 3, 4, 5, 6, 7, 8}) {
		t.Error("the memory was changed", one)
	}
	alike(t, "shared", o, twin)
}

func TestSetWherePathReturnsFalse(t *testing.T) {
	for name, tree := range wrongShapes() {
		for _, i := range []int{0, 1, -1, 256, math.MaxInt, math.MinInt} {
			o, twin := twins(7)
			to, ok := Set(o, tree, i, "a")
			noTree(t, name, to, ok)
			alike(t, name, o, twin)
		}
	}
	for d := range depth + 1 {
		for _, i := range []int{-1, -2, math.MinInt, 1 << d, 1<<d + 1, 2 << d, 1 << 40, math.MaxInt} {
			o, twin := twins(7)
			to, ok := Set(o, counting(d), i, "a")
			noTree(t, fmt.Sprintf("depth %d, index %d", d, i), to, ok)
			alike(t, "no query", o, twin)
		}
	}
}

// P6.4

func TestEachLeafClimbsToTheRoot(t *testing.T) {
	for d := range depth + 1 {
		for _, n := range counts(d) {
			o := ideal.New([]uint64{7, 9, 127, 128, most})
			leaves := append(texts(n), make([]string, 1<<d-n)...)
			tree := build(t, o, d, texts(n))
			drawn := o.Drawn()
			for i, s := range leaves {
				path, ok := Path(tree, i)
				if !ok || len(path) != d {
					t.Fatalf("depth %d, index %d: %v, %v", d, i, path, ok)
				}
				climbs(t, fmt.Sprintf("depth %d, index %d", d, i), o, s, i, path, root(tree))
			}
			state(t, "nothing new", o, drawn, false)
		}
	}
}

// Whatever is changed of a text, an index or a path, the root is not reached.
func TestNothingElseClimbsToTheRoot(t *testing.T) {
	for _, d := range []int{0, 1, 2, 3, 5, 8} {
		o := ideal.New([]uint64{7, 9, 127, 128, most})
		leaves := texts(1 << d)
		tree := build(t, o, d, leaves)
		for _, i := range counts(d) {
			if i == 1<<d {
				continue
			}
			path, _ := Path(tree, i)
			otherText(t, o, tree, leaves, i, path)
			otherIndex(t, o, tree, leaves, i, path)
			otherPath(t, o, tree, leaves[i], i, path)
		}
		state(t, fmt.Sprintf("depth %d", d), o, o.Drawn(), false)
	}
}

func otherText(t *testing.T, o *ideal.Oracle, tree [][]uint64, leaves []string, i int, path []uint64) {
	t.Helper()
	for _, s := range slices.Concat(leaves, []string{"", "b", leaves[i] + "x", "leaf" + leaves[i], "\x00" + leaves[i], leaves[i][1:]}) {
		if s != leaves[i] {
			astray(t, "another text", o, s, i, path, root(tree))
		}
	}
}

func otherIndex(t *testing.T, o *ideal.Oracle, tree [][]uint64, leaves []string, i int, path []uint64) {
	t.Helper()
	for k := range leaves {
		if k != i {
			astray(t, "another index", o, leaves[i], k, path, root(tree))
			its, _ := Path(tree, k)
			astray(t, "another index with its path", o, leaves[i], k, its, root(tree))
			astray(t, "the path of another index", o, leaves[i], i, beside(its, path), root(tree))
		}
	}
}

// beside returns the first path unless it is the second one, and another one then.
func beside(its, path []uint64) []uint64 {
	if slices.Equal(its, path) {
		return append([]uint64{path[0] + 1}, path[1:]...)
	}
	return its
}

func otherPath(t *testing.T, o *ideal.Oracle, tree [][]uint64, s string, i int, path []uint64) {
	t.Helper()
	for k := range path {
		for _, v := range slices.Concat(tree...) {
			if v != path[k] {
				wrong := slices.Clone(path)
				wrong[k] = v
				astray(t, "a value of the tree", o, s, i, wrong, root(tree))
			}
		}
		for _, v := range []uint64{0, 1, path[k] - 1, path[k] + 1, most - 1} {
			wrong := slices.Clone(path)
			wrong[k] = v
			astray(t, "another value", o, s, i, wrong, root(tree))
		}
		for m := range k {
			wrong := slices.Clone(path)
			wrong[k], wrong[m] = wrong[m], wrong[k]
			astray(t, "two values exchanged", o, s, i, wrong, root(tree))
		}
		astray(t, "one value less", o, s, i%(1<<(len(path)-1)), slices.Delete(slices.Clone(path), k, k+1), root(tree))
	}
	if len(path) < depth {
		astray(t, "one value more", o, s, i, append(slices.Clone(path), root(tree)), root(tree))
		astray(t, "a value more below", o, s, i, append([]uint64{5}, path...), root(tree))
	}
}

// A node stands for no leaf, and no leaf for a node: neither a shorter nor a longer way reaches the root.
func TestNoNodeIsALeaf(t *testing.T) {
	o := ideal.New([]uint64{5, 6, 7, 8, 9, 10, 11})
	tree := build(t, o, 2, texts(4))
	sameTree(t, "built", tree, true, [][]uint64{{5, 6, 7, 8}, {9, 10}, {11}})
	for _, s := range []string{"\x05\x06", "node\x05\x06", "\x09\x0a", "node\x09\x0a", "\x09", "\x0b", "9"} {
		for i := range 2 {
			astray(t, "a node's text", o, s, i, []uint64{10}, 11)
			astray(t, "a node's text", o, s, i, []uint64{9}, 11)
			astray(t, "a root's text", o, s, 0, nil, 11)
		}
	}
	state(t, "all", o, o.Drawn(), false)
}

func TestTwoTreesOfOneDepthHaveTwoRoots(t *testing.T) {
	for d := range 4 {
		o := ideal.New([]uint64{7, 9, 127, 128})
		seen := map[uint64][]string{}
		eachLeaves(1<<d, func(leaves []string) {
			h := root(build(t, o, d, leaves))
			if other, ok := seen[h]; ok {
				t.Fatalf("depth %d: %q and %q have one root", d, other, leaves)
			}
			seen[h] = slices.Clone(leaves)
		})
		state(t, "all", o, o.Drawn(), false)
	}
}

// eachLeaves calls f with all lists of n leaves of few texts, of which one is empty.
func eachLeaves(n int, f func([]string)) {
	some := []string{"", "a", "b"}
	total := 1
	for range n {
		total *= len(some)
	}
	for at := range total {
		leaves := make([]string, n)
		for i := range leaves {
			leaves[i] = some[at%len(some)]
			at /= len(some)
		}
		f(leaves)
	}
}

// Leaves that end in empty texts are those that are left out.
func TestEmptyTextsAtTheEnd(t *testing.T) {
	o := ideal.New(nil)
	for d := range depth + 1 {
		for _, n := range counts(d) {
			short := build(t, o, d, texts(n))
			full := build(t, o, d, append(texts(n), make([]string, 1<<d-n)...))
			sameTree(t, "filled up", full, true, short)
		}
	}
}

func TestRandomSetsAndClimbs(t *testing.T) {
	r := rand.New(rand.NewSource(61))
	for range 60 {
		d := r.Intn(6)
		o, twin := twins(uint64(r.Intn(1000))+1, most)
		leaves := make([]string, 1<<d)
		tree, by := build(t, o, d, nil), buildByHand(twin, d, nil)
		for range 60 {
			i, k := r.Intn(1<<d), r.Intn(1<<d)
			leaves[i] = strings.Repeat("z", r.Intn(9))
			tree, by = set(t, o, tree, i, leaves[i]), setByHand(twin, by, i, leaves[i])
			sameTree(t, "set", tree, true, by)
			path, _ := Path(tree, k)
			climbs(t, "after a set", o, leaves[k], k, path, root(tree))
			if i != k {
				astray(t, "after a set", o, leaves[k]+"y", k, path, root(tree))
				climbByHand(twin, leaves[k]+"y", k, path)
			}
			alike(t, "random", o, twin)
		}
		sameTree(t, "in the end", tree, true, build(t, o, d, leaves))
		fits(t, "in the end", o, tree, true)
		state(t, "in the end", o, o.Drawn(), false)
	}
}

// A bad event: values that come twice. All goes on as the queries by hand do.
func TestMerkleAfterABadEvent(t *testing.T) {
	r := rand.New(rand.NewSource(62))
	for range 300 {
		draws := make([]uint64, 40)
		for i := range draws {
			draws[i] = uint64(r.Intn(4))
		}
		o, twin := twins(draws...)
		o.Meet(1)
		twin.Meet(1)
		d := r.Intn(4)
		leaves := texts(r.Intn(1<<d + 1))
		tree := build(t, o, d, leaves)
		sameTree(t, "built", tree, true, buildByHand(twin, d, leaves))
		fits(t, "built", o, tree, true)
		i := r.Intn(1 << d)
		to := set(t, o, tree, i, "new")
		sameTree(t, "set", to, true, setByHand(twin, tree, i, "new"))
		path, _ := Path(to, i)
		climbs(t, "set", o, "new", i, path, root(to))
		climbs(t, "another", o, "other", i, path, climbByHand(twin, "other", i, path))
		alike(t, "all", o, twin)
	}
}

// Climb meets nothing: the values of its path may be drawn later.
func TestClimbMeetsNothing(t *testing.T) {
	o := ideal.New([]uint64{7, 9, 11, 1, 2, 3, 4})
	Climb(o, "a", 1, []uint64{1, 2})
	Node(o, 3, 4)
	for range 3 {
		o.Fresh()
	}
	state(t, "drawn", o, 7, false)
}

func TestNilAndEmptyAreAlike(t *testing.T) {
	o := ideal.New(nil)
	for d := range depth + 1 {
		sameTree(t, "no leaves", build(t, o, d, []string{}), true, build(t, o, d, nil))
	}
	if Fits(o, nil) || Fits(o, [][]uint64{}) || Fits(o, [][]uint64{nil}) || Fits(o, [][]uint64{{}}) {
		t.Error("what is empty fits")
	}
	a, ok := Climb(o, "a", 0, nil)
	b, is := Climb(o, "a", 0, []uint64{})
	if a != b || !ok || !is {
		t.Error("no path", a, b)
	}
}

// Nothing is kept from one oracle to the next.
func TestMerkleOfOracleByOracle(t *testing.T) {
	a, b := ideal.New([]uint64{5, 6, 7}), ideal.New([]uint64{15, 16, 17})
	tree := build(t, a, 1, []string{"a"})
	fits(t, "the other", b, tree, false)
	state(t, "the other", b, 1, false)
	sameTree(t, "the other", build(t, b, 1, []string{"a"}), true, [][]uint64{{16, 17}, {past + 3}})
	fits(t, "one", a, tree, true)
	state(t, "one", a, 3, false)
}
