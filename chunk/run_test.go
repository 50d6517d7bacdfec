package chunk

import (
	"countersign/api"
	"countersign/ideal"
	"fmt"
	"math"
	"math/rand"
	"reflect"
	"strings"
	"testing"
)

const master = uint64(9)

// bench is an oracle that the package asks, and a second one of the same draws that is asked by hand.
type bench struct {
	*testing.T
	o, twin *ideal.Oracle
}

func newBench(t *testing.T, draws ...uint64) bench {
	return bench{t, ideal.New(draws), ideal.New(draws)}
}

// tokenText is a token's text by the document's words.
func tokenText(k api.Token) string {
	return "token" + encode(k.Tenant) + encode(k.Volume) + encode(k.Epoch) + encode(k.Rights)
}

// issue is a token under the master key.
func (b bench) issue(tenant, volume, epoch, rights uint64) api.Token {
	k := api.Token{Tenant: tenant, Volume: volume, Epoch: epoch, Rights: rights}
	k.Tag = b.o.Mac(master, tokenText(k))
	b.twin.Mac(master, tokenText(k))
	return k
}

// tokenError asks the oracle by hand, and holds all errors against each other.
func tokenError(o *ideal.Oracle, key uint64, k api.Token, volume, epoch, want uint64) api.Errno {
	e := api.Errno(0)
	if k.Rights&want != want {
		e = 73
	}
	if k.Epoch < epoch {
		e = 72
	}
	if k.Volume != volume {
		e = 71
	}
	if !o.Verify(key, tokenText(k), k.Tag) {
		e = 70
	}
	return e
}

// volumeByHand is the place of a volume, or -1.
func volumeByHand(st api.Chunk, volume uint64) int {
	for i, v := range st.Vols {
		if v.Volume == volume {
			return i
		}
	}
	return -1
}

func tenantByHand(st api.Chunk, tenant uint64) int {
	for i, r := range st.Quotas {
		if r.Tenant == tenant {
			return i
		}
	}
	return -1
}

// runByHand is the document's words on a copy of the state.
func runByHand(o *ideal.Oracle, key uint64, before api.Chunk, c api.Command) (api.Chunk, api.Errno, string) {
	st := copyOf(before)
	at := volumeByHand(st, c.Volume)
	switch c.Do {
	case 0:
		return makeByHand(st, c)
	case 1:
		if at == -1 {
			return st, 132, ""
		}
		if c.A > st.Vols[at].Epoch {
			st.Vols[at].Epoch = c.A
		}
		return st, 0, ""
	case 2:
		row := tenantByHand(st, c.A)
		if row == -1 && len(st.Quotas) > 15 {
			return st, 135, ""
		}
		if row == -1 {
			st.Quotas = append(st.Quotas, api.Quota{Tenant: c.A, Limit: c.B})
		} else {
			st.Quotas[row].Limit = c.B
		}
		return st, 0, ""
	case 3, 4, 5:
		return leafByHand(o, key, st, c)
	}
	return st, 130, ""
}

func makeByHand(st api.Chunk, c api.Command) (api.Chunk, api.Errno, string) {
	if volumeByHand(st, c.Volume) != -1 {
		return st, 134, ""
	}
	if len(st.Vols) > 7 {
		return st, 135, ""
	}
	many, ok := map[uint64]int{0: 1, 1: 2, 2: 4, 3: 8, 4: 16}[c.B]
	if !ok {
		return st, 133, ""
	}
	v := api.Vol{Volume: c.Volume, Tenant: c.A, Epoch: c.Sector, Depth: int(c.B)}
	for range many {
		v.Leaves = append(v.Leaves, "")
	}
	st.Vols = append(st.Vols, v)
	return st, 0, ""
}

func leafByHand(o *ideal.Oracle, key uint64, st api.Chunk, c api.Command) (api.Chunk, api.Errno, string) {
	at := volumeByHand(st, c.Volume)
	if at == -1 {
		return st, 132, ""
	}
	v := st.Vols[at]
	right := map[int]uint64{3: 2, 4: 1, 5: 2}[c.Do]
	if e := tokenError(o, key, c.Token, c.Volume, v.Epoch, right); e != 0 {
		return st, e, ""
	}
	if c.Sector > 15 || int(c.Sector) >= []int{1, 2, 4, 8, 16}[v.Depth] {
		return st, 133, ""
	}
	there, row := v.Leaves[c.Sector] != "", tenantByHand(st, v.Tenant)
	switch c.Do {
	case 4:
		return st, 0, v.Leaves[c.Sector]
	case 5:
		if there && row != -1 && st.Quotas[row].Used > 0 {
			st.Quotas[row].Used--
		}
		v.Leaves[c.Sector] = ""
		return st, 0, ""
	}
	if len(c.Leaf) < 1 || len(c.Leaf) > 64 {
		return st, 136, ""
	}
	if !there {
		if row == -1 {
			return st, 120, ""
		}
		if st.Quotas[row].Used >= st.Quotas[row].Limit {
			return st, 121, ""
		}
		st.Quotas[row].Used++
	}
	v.Leaves[c.Sector] = c.Leaf
	return st, 0, ""
}

// alike asks that the oracle is as the one that was asked by hand, with all that both keep.
func (b bench) alike(name string) {
	b.Helper()
	if !reflect.DeepEqual(b.o, b.twin) {
		b.Errorf("%s: the oracle is not as its queries by hand leave it", name)
	}
}

// runs asks Run for a state, an error and an answer: that they are as the document's words have them too,
// that Run changes nothing of what it is given, and that what it returns is new memory.
func (b bench) runs(name string, st api.Chunk, c api.Command, want api.Chunk, e api.Errno, answer string) api.Chunk {
	b.Helper()
	hand, he, hs := runByHand(b.twin, master, st, c)
	if !same(hand, want) || he != e || hs != answer {
		b.Errorf("%s: by hand %s, %d, %q; want %s, %d, %q", name, brief(hand), he, hs, brief(want), e, answer)
	}
	var again api.Chunk
	unchanged(b.T, name, st, func(x api.Chunk) {
		b.Helper()
		got, ge, gs := Run(b.o, master, x, c)
		if !same(got, want) || ge != e || gs != answer {
			b.Errorf("%s: %v of %s:\n%s, %d, %q; want\n%s, %d, %q", name, c, brief(st), brief(got), ge, gs, brief(want), e, answer)
		}
		again, _, _ = Run(b.o, master, x, c)
		mark(b.T, name, got)
		if !same(again, want) {
			b.Errorf("%s: asked again %s, want %s", name, brief(again), brief(want))
		}
	})
	b.alike(name)
	return again
}

// fails asks for an error, with the state as it was.
func (b bench) fails(name string, st api.Chunk, c api.Command, e api.Errno) {
	b.Helper()
	b.runs(name, st, c, st, e, "")
}

// does asks for a state without an error, and without an answer.
func (b bench) does(name string, st api.Chunk, c api.Command, want api.Chunk) api.Chunk {
	b.Helper()
	return b.runs(name, st, c, want, api.OK, "")
}

// withVol is a state that has another volume at a place.
func withVol(st api.Chunk, at int, v api.Vol) api.Chunk {
	c := copyOf(st)
	c.Vols[at] = v
	return c
}

// withLeaf is a state that has another leaf.
func withLeaf(st api.Chunk, at, sector int, leaf string) api.Chunk {
	c := copyOf(st)
	c.Vols[at].Leaves[sector] = leaf
	return c
}

// withQuota is a state in which a tenant has so many sectors, and may have so many.
func withQuota(st api.Chunk, at int, used, limit uint64) api.Chunk {
	c := copyOf(st)
	c.Quotas[at].Used, c.Quotas[at].Limit = used, limit
	return c
}

func withSessions(st api.Chunk, l []api.Session) api.Chunk {
	c := copyOf(st)
	c.Sessions = append([]api.Session{}, l...)
	return c
}

// P13.2: any Do

func TestRunOfNoCommand(t *testing.T) {
	b := newBench(t)
	k := b.issue(7, 1, 9, 3)
	for _, st := range append(validStates()[:12], someState(), fullState()) {
		for _, do := range []int{-1, -2, -6, 6, 7, 8, 127, 256, 259, 1 << 32, math.MinInt, math.MinInt + 3, math.MaxInt} {
			b.fails("no command", st, api.Command{Do: do}, api.ErrChunkForm)
			b.fails("no command", st, api.Command{Do: do, Volume: 1, Token: k, Sector: 1, A: 7, B: 1, Leaf: "x"}, api.ErrChunkForm)
			b.fails("no command", st, api.Command{Do: do, Volume: 90, Token: k, Sector: 90, A: 70, B: 10}, api.ErrChunkForm)
		}
	}
	if b.o.Bad() || b.o.Drawn() != 1 {
		t.Errorf("%d drawn, bad %v", b.o.Drawn(), b.o.Bad())
	}
}

// P13.2: Make

func TestMakeOfEachDepth(t *testing.T) {
	b := newBench(t)
	for _, st := range []api.Chunk{{}, vols(5), vols(5, 6, 7), someState(), withSessions(vols(5), sessions(16))} {
		for depth := range 5 {
			for _, n := range append(numbers(), 77) {
				if volumeByHand(st, n) < 0 {
					want := copyOf(st)
					want.Vols = append(want.Vols, vol(n, 12, 13, depth, make([]string, 1<<depth)...))
					b.does("make", st, api.Command{Do: api.CmdMake, Volume: n, A: 12, Sector: 13, B: uint64(depth)}, want)
				}
				want := copyOf(st)
				want.Vols = append(want.Vols, vol(1000, n, 13, depth, make([]string, 1<<depth)...))
				b.does("make", st, api.Command{Do: api.CmdMake, Volume: 1000, A: n, Sector: 13, B: uint64(depth)}, want)
				want.Vols[len(want.Vols)-1] = vol(1000, 12, n, depth, make([]string, 1<<depth)...)
				b.does("make", st, api.Command{Do: api.CmdMake, Volume: 1000, A: 12, Sector: n, B: uint64(depth)}, want)
			}
		}
	}
	// Neither the token nor the leaf matters, and the oracle isn't asked.
	c := api.Command{Do: api.CmdMake, Volume: 1, A: 2, B: 0, Token: api.Token{Tag: 55}, Leaf: strings.Repeat("x", 65)}
	b.does("make", api.Chunk{}, c, api.Chunk{Vols: []api.Vol{vol(1, 2, 0, 0, "")}})
}

func TestMakeOfWhatIsThere(t *testing.T) {
	b := newBench(t)
	for _, st := range []api.Chunk{vols(1), vols(1, 2), vols(2, 1), upTo(7), upTo(8), fullState(), someState()} {
		for _, v := range st.Vols {
			for _, depth := range []uint64{0, 1, 4, 5, most} {
				b.fails("there", st, api.Command{Do: api.CmdMake, Volume: v.Volume, A: 1, B: depth}, api.ErrChunkThere)
				b.fails("there", st, api.Command{Do: api.CmdMake, Volume: v.Volume, A: v.Tenant, Sector: v.Epoch, B: depth}, api.ErrChunkThere)
			}
		}
	}
}

func TestMakeOfManyVolumes(t *testing.T) {
	b := newBench(t)
	var st api.Chunk
	for i := range 8 {
		want := upTo(i + 1)
		for k := range want.Vols {
			want.Vols[k].Tenant, want.Vols[k].Epoch = 3, 4
		}
		st = b.does("make", st, api.Command{Do: api.CmdMake, Volume: uint64(i) + 1, A: 3, Sector: 4}, want)
	}
	for _, depth := range []uint64{0, 1, 4, 5, 6, past, most} {
		for _, n := range []uint64{0, 9, 10, most} {
			b.fails("many", st, api.Command{Do: api.CmdMake, Volume: n, A: 3, B: depth}, api.ErrChunkMany)
		}
		b.fails("there", st, api.Command{Do: api.CmdMake, Volume: 8, A: 3, B: depth}, api.ErrChunkThere)
	}
}

func TestMakeOfOtherDepths(t *testing.T) {
	b := newBench(t)
	for many := range 10 {
		for _, depth := range []uint64{5, 6, 7, 8, 16, 63, 64, 127, 128, 256, 256 + 2, 1 << 32, past - 1, past, past + 1, most - 1, most} {
			if many < 8 {
				b.fails("depth", upTo(many), api.Command{Do: api.CmdMake, Volume: 50, A: 3, B: depth}, api.ErrChunkSector)
			}
		}
	}
}

// P13.2: Epoch

func TestEpoch(t *testing.T) {
	b := newBench(t)
	for at := range 3 {
		for _, epoch := range numbers() {
			for _, to := range append(numbers(), epoch-1, epoch+1) {
				st := withVol(someState(), at, vol(40, 7, epoch, 1, "a", ""))
				want := copyOf(st)
				if to > epoch {
					want.Vols[at].Epoch = to
				}
				b.does("epoch", st, api.Command{Do: api.CmdEpoch, Volume: 40, A: to, Sector: 3, B: most}, want)
			}
		}
	}
}

func TestEpochOfNoVolume(t *testing.T) {
	b := newBench(t)
	for _, st := range []api.Chunk{{}, vols(1), upTo(8), someState()} {
		for _, n := range []uint64{0, 9, 77, past, most} {
			for _, to := range []uint64{0, 1, most} {
				b.fails("no volume", st, api.Command{Do: api.CmdEpoch, Volume: n, A: to, Sector: 1, B: 1}, api.ErrChunkVolume)
			}
		}
	}
}

// P13.2: Limit

func TestLimit(t *testing.T) {
	b := newBench(t)
	for many := range 16 {
		st := withSessions(vols(1, 2), sessions(2))
		st.Quotas = quotas(many)
		for _, n := range numbers() {
			for _, tenant := range []uint64{0, 1, 2, 59, past, most} {
				want := copyOf(st)
				want.Quotas = append(want.Quotas, api.Quota{Tenant: tenant, Limit: n})
				b.does("new", st, api.Command{Do: api.CmdLimit, A: tenant, B: n, Volume: 90, Sector: 90}, want)
			}
			if many > 0 {
				at := int(n % uint64(many))
				b.does("row", st, api.Command{Do: api.CmdLimit, A: st.Quotas[at].Tenant, B: n}, withQuota(st, at, uint64(at), n))
			}
		}
	}
}

func TestLimitOfManyTenants(t *testing.T) {
	b := newBench(t)
	st := withSessions(vols(1, 2), sessions(2))
	st.Quotas = quotas(16)
	for _, n := range numbers() {
		for _, tenant := range []uint64{0, 1, 59, 76, most} {
			b.fails("many", st, api.Command{Do: api.CmdLimit, A: tenant, B: n}, api.ErrChunkMany)
		}
		for at := range 16 {
			b.does("row", st, api.Command{Do: api.CmdLimit, A: uint64(at) + 60, B: n}, withQuota(st, at, uint64(at), n))
		}
	}
}

// P13.2: Put, Get, Trim

// held is a state of three volumes, of the tenants 7, 8 and 7, in which tenant 7 has a row, and tenant 8 has none.
func held() api.Chunk {
	return api.Chunk{
		Vols:     []api.Vol{vol(1, 7, 3, 1, "", "leaf"), vol(2, 8, 3, 0, "two"), vol(3, 7, 3, 2, "a", "", "c", strings.Repeat("d", 64))},
		Sessions: sessions(2),
		Quotas:   []api.Quota{{Tenant: 6, Used: 1, Limit: 1}, {Tenant: 7, Used: 4, Limit: 9}},
	}
}

// leafDos are the commands that want a token, with the rights that they want.
func leafDos() map[int]uint64 {
	return map[int]uint64{api.CmdPut: 2, api.CmdGet: 1, api.CmdTrim: 2}
}

func TestLeafCommandsOfNoVolume(t *testing.T) {
	b := newBench(t)
	k := b.issue(7, 9, 5, 3)
	for do := range leafDos() {
		for _, st := range []api.Chunk{{}, held(), upTo(8)} {
			for _, c := range []api.Command{
				{Do: do, Volume: 9, Token: k, Leaf: "x"},
				{Do: do, Volume: 9},
				{Do: do, Volume: 9, Token: api.Token{Volume: 9, Tag: 1}, Sector: 99},
				{Do: do, Volume: most, Token: k, Sector: most, Leaf: strings.Repeat("x", 65)},
				{Do: do, Volume: 0, Token: k, A: 1, B: 1},
			} {
				b.fails("no volume", st, c, api.ErrChunkVolume)
			}
		}
	}
}

// Where there is no volume, the token isn't shown to the oracle; else it is, and its tag is met.
func TestTheTagIsMetWhereThereIsAVolume(t *testing.T) {
	for do := range leafDos() {
		b := newBench(t, 500, 600)
		b.fails("no volume", held(), api.Command{Do: do, Volume: 9, Token: api.Token{Tag: 500}}, api.ErrChunkVolume)
		b.o.Fresh()
		b.twin.Fresh()
		if b.o.Bad() {
			t.Error("the tag was met")
		}
		b.fails("no token", held(), api.Command{Do: do, Volume: 1, Token: api.Token{Tag: 600}, Sector: 9}, api.ErrTokenTag)
		b.o.Fresh()
		b.twin.Fresh()
		if !b.o.Bad() {
			t.Error("the tag was not met")
		}
		b.alike("after both")
	}
}

func TestLeafCommandsWithAWrongToken(t *testing.T) {
	for do, right := range leafDos() {
		for _, sector := range []uint64{0, 1, 2, most} {
			for _, leaf := range []string{"x", "", strings.Repeat("x", 65)} {
				b := newBench(t, 1000, 2000, 3000, 4000, 5000, 6000)
				c := api.Command{Do: do, Volume: 1, Sector: sector, Leaf: leaf}
				wrong := func(name string, k api.Token, e api.Errno) {
					t.Helper()
					c.Token = k
					b.fails(name, held(), c, e)
				}
				good := b.issue(7, 1, 3, right)
				wrong("no tag", api.Token{Tenant: 7, Volume: 1, Epoch: 3, Rights: 3, Tag: 77}, api.ErrTokenTag)
				for _, change := range []func(*api.Token){
					func(k *api.Token) { k.Tenant++ }, func(k *api.Token) { k.Volume++ }, func(k *api.Token) { k.Epoch++ },
					func(k *api.Token) { k.Rights = 7 }, func(k *api.Token) { k.Tag++ }, func(k *api.Token) { k.Tag = 0 },
				} {
					k := good
					change(&k)
					wrong("changed", k, api.ErrTokenTag)
				}
				wrong("another volume", b.issue(7, 2, 3, 3), api.ErrTokenVolume)
				wrong("another volume, old, no right", b.issue(7, 3, 0, 0), api.ErrTokenVolume)
				wrong("old", b.issue(7, 1, 2, 3), api.ErrTokenOld)
				wrong("old, no right", b.issue(7, 1, 0, 0), api.ErrTokenOld)
				wrong("no right", b.issue(7, 1, 3, ^right), api.ErrTokenRights)
			}
		}
	}
}

// A tag under another key, or under none, is not one under this key.
func TestLeafCommandsWithATokenOfAnotherKey(t *testing.T) {
	for do := range leafDos() {
		o := ideal.New(nil)
		k := api.Token{Tenant: 7, Volume: 1, Epoch: 3, Rights: 3}
		k.Tag = o.Mac(8, tokenText(k))
		c := api.Command{Do: do, Volume: 1, Token: k, Leaf: "x"}
		if _, e, _ := Run(o, 9, held(), c); e != api.ErrTokenTag {
			t.Errorf("another key: %d", e)
		}
		if _, e, _ := Run(o, 8, held(), c); e != api.OK {
			t.Errorf("its key: %d", e)
		}
	}
}

// The volume's epoch is the least: a token of it or of a later one is taken. The token's tenant is nobody's matter.
func TestLeafCommandsWithAGoodToken(t *testing.T) {
	b := newBench(t)
	for do, right := range leafDos() {
		for _, epoch := range []uint64{3, 4, 300, most} {
			for _, tenant := range []uint64{7, 8, 0, most} {
				for _, rights := range []uint64{right, 3, most, right | 1<<63} {
					k := b.issue(tenant, 1, epoch, rights)
					want, answer := held(), ""
					switch do {
					case api.CmdPut:
						want = withLeaf(held(), 0, 1, "new")
					case api.CmdGet:
						answer = "leaf"
					case api.CmdTrim:
						want = withQuota(withLeaf(held(), 0, 1, ""), 1, 3, 9)
					}
					b.runs("good", held(), api.Command{Do: do, Volume: 1, Sector: 1, Token: k, Leaf: "new"}, want, api.OK, answer)
				}
			}
		}
	}
}

func TestSectorsOfEachDepth(t *testing.T) {
	b := newBench(t)
	k := b.issue(7, 1, 0, 3)
	for do := range leafDos() {
		for depth := range 5 {
			last := uint64(1)<<depth - 1
			for _, leaf := range []string{"x", "", strings.Repeat("x", 65)} {
				st := api.Chunk{Vols: []api.Vol{bare(2, 4, 16), bare(1, depth, 1<<depth), bare(3, 4, 16)}}
				for _, sector := range []uint64{last + 1, last + 2, 16, 17, 64, 256, 1 << 16, 1 << 32, past - 1, past, past + last, most - 1, most} {
					st.Vols[1].Epoch = 0
					b.fails("sector", st, api.Command{Do: do, Volume: 1, Sector: sector, Token: k, Leaf: leaf}, api.ErrChunkSector)
				}
			}
			st := api.Chunk{Vols: []api.Vol{bare(1, depth, 1<<depth)}, Quotas: []api.Quota{{Tenant: 11, Used: 1, Limit: 2}}}
			st.Vols[0].Epoch = 0
			for at := range 1 << depth {
				lone := withLeaf(st, 0, at, "it")
				want, answer := lone, ""
				switch do {
				case api.CmdPut:
					want = withLeaf(st, 0, at, "x")
				case api.CmdGet:
					answer = "it"
				case api.CmdTrim:
					want = withQuota(st, 0, 0, 2)
				}
				b.runs("sector", lone, api.Command{Do: do, Volume: 1, Sector: uint64(at), Token: k, Leaf: "x"}, want, api.OK, answer)
			}
		}
	}
}

func TestGetOfEachLeaf(t *testing.T) {
	b := newBench(t)
	for at, v := range held().Vols {
		k := b.issue(1, v.Volume, 3, 1)
		for sector, leaf := range v.Leaves {
			// A leaf that the command brings, or none, matters nothing.
			for _, other := range []string{"", "x", strings.Repeat("x", 65)} {
				b.runs(fmt.Sprint("get ", at), held(), api.Command{Do: api.CmdGet, Volume: v.Volume, Sector: uint64(sector), Token: k, Leaf: other}, held(), api.OK, leaf)
			}
		}
	}
}

func TestPutOfEachLeaf(t *testing.T) {
	b := newBench(t)
	k := b.issue(1, 3, 3, 2)
	for _, leaf := range []string{"x", "\x00", "\xff\xfe", "é", strings.Repeat("x", 63), strings.Repeat("x", 64), strings.Repeat("\x00", 64)} {
		for sector := range 4 {
			want := withLeaf(held(), 2, sector, leaf)
			if sector == 1 {
				want.Quotas[1].Used = 5
			}
			b.does("put", held(), api.Command{Do: api.CmdPut, Volume: 3, Sector: uint64(sector), Token: k, Leaf: leaf}, want)
		}
	}
	// The leaf that stands there already changes nothing.
	b.does("put", held(), api.Command{Do: api.CmdPut, Volume: 3, Sector: 0, Token: k, Leaf: "a"}, held())
}

func TestPutOfALeafOfAnotherLength(t *testing.T) {
	b := newBench(t)
	k, two := b.issue(1, 3, 3, 2), b.issue(1, 2, 3, 2)
	for _, leaf := range []string{"", strings.Repeat("x", 65), strings.Repeat("x", 66), strings.Repeat("é", 33), strings.Repeat("x", 64+256), strings.Repeat("x", 1<<16)} {
		for sector := range 4 {
			c := api.Command{Do: api.CmdPut, Volume: 3, Sector: uint64(sector), Token: k, Leaf: leaf}
			b.fails("long", held(), c, api.ErrChunkLong)
			b.fails("long, over", withQuota(held(), 1, 9, 9), c, api.ErrChunkLong)
		}
		// Also where the tenant has no row.
		b.fails("long", withLeaf(held(), 1, 0, ""), api.Command{Do: api.CmdPut, Volume: 2, Token: two, Leaf: leaf}, api.ErrChunkLong)
	}
}

func TestPutAsksForTheTenantsQuota(t *testing.T) {
	b := newBench(t)
	k, two := b.issue(6, 1, 3, 2), b.issue(7, 2, 3, 2)
	put := api.Command{Do: api.CmdPut, Volume: 1, Sector: 0, Token: k, Leaf: "new"}
	over := put
	over.Sector = 1
	for _, x := range []struct{ used, limit uint64 }{{0, 1}, {8, 9}, {0, most}, {most - 1, most}, {127, 128}} {
		st := withQuota(held(), 1, x.used, x.limit)
		b.does("room", st, put, withLeaf(withQuota(st, 1, x.used+1, x.limit), 0, 0, "new"))
		b.does("a leaf that is there", st, over, withLeaf(st, 0, 1, "new"))
	}
	for _, x := range []struct{ used, limit uint64 }{{0, 0}, {9, 9}, {10, 9}, {most, most}, {most, 0}, {1, 0}, {most, 5}} {
		st := withQuota(held(), 1, x.used, x.limit)
		b.fails("no room", st, put, api.ErrQuotaOver)
		b.does("a leaf that is there", st, over, withLeaf(st, 0, 1, "new"))
	}
	bare := withLeaf(held(), 1, 0, "")
	b.fails("no row", bare, api.Command{Do: api.CmdPut, Volume: 2, Token: two, Leaf: "new"}, api.ErrQuotaTenant)
	b.does("no row, a leaf that is there", held(), api.Command{Do: api.CmdPut, Volume: 2, Token: two, Leaf: "new"}, withLeaf(held(), 1, 0, "new"))
	none := withLeaf(api.Chunk{Vols: held().Vols}, 0, 0, "")
	b.fails("no rows", none, put, api.ErrQuotaTenant)
}

func TestTrim(t *testing.T) {
	b := newBench(t)
	k, two := b.issue(6, 3, 3, 2), b.issue(7, 2, 3, 2)
	trim := api.Command{Do: api.CmdTrim, Volume: 3, Sector: 2, Token: k}
	for _, x := range []struct{ used, left, limit uint64 }{{4, 3, 9}, {1, 0, 9}, {0, 0, 9}, {0, 0, 0}, {9, 8, 3}, {most, most - 1, 0}, {most, most - 1, most}} {
		st := withQuota(held(), 1, x.used, x.limit)
		b.does("trim", st, trim, withLeaf(withQuota(st, 1, x.left, x.limit), 2, 2, ""))
		for _, leaf := range []string{"c", strings.Repeat("x", 65)} {
			trim.Leaf = leaf
			b.does("trim with a leaf", st, trim, withLeaf(withQuota(st, 1, x.left, x.limit), 2, 2, ""))
		}
		none := trim
		none.Sector = 1
		b.does("no leaf", st, none, st)
	}
	// Give's error is ignored: the leaf goes, and no row comes of it.
	b.does("no row", held(), api.Command{Do: api.CmdTrim, Volume: 2, Token: two}, withLeaf(held(), 1, 0, ""))
	rest := withLeaf(held(), 1, 0, "")
	b.does("no row, no leaf", rest, api.Command{Do: api.CmdTrim, Volume: 2, Token: two}, rest)
	b.does("no rows", api.Chunk{Vols: held().Vols}, api.Command{Do: api.CmdTrim, Volume: 3, Sector: 2, Token: k}, withLeaf(api.Chunk{Vols: held().Vols}, 2, 2, ""))
}

// Which error comes first, from the last one to the first: each is put right in its turn.
func TestTheFirstErrorOfPut(t *testing.T) {
	b := newBench(t)
	st := withQuota(held(), 1, 9, 9)
	c := api.Command{Do: api.CmdPut, Volume: 9, Sector: 9, Token: api.Token{Volume: 2, Tag: 5}, Leaf: ""}
	step := func(name string, e api.Errno) {
		t.Helper()
		b.fails(name, st, c, e)
	}
	step("all wrong", api.ErrChunkVolume)
	c.Volume = 1
	step("the token's tag, volume, epoch, right, then sector, leaf, quota", api.ErrTokenTag)
	c.Token = b.issue(7, 2, 0, 1)
	step("the token's volume and on", api.ErrTokenVolume)
	c.Token = b.issue(7, 1, 0, 1)
	step("the token's epoch and on", api.ErrTokenOld)
	c.Token = b.issue(7, 1, 3, 1)
	step("the right and on", api.ErrTokenRights)
	c.Token = b.issue(7, 1, 3, 2)
	step("sector and on", api.ErrChunkSector)
	c.Sector = 0
	step("leaf and on", api.ErrChunkLong)
	c.Leaf = "x"
	step("quota", api.ErrQuotaOver)
	st.Quotas[1].Limit = 10
	b.does("none", st, c, withLeaf(withQuota(st, 1, 10, 10), 0, 0, "x"))
	c.Do = 6
	step("no command", api.ErrChunkForm)
}

func TestTheFirstErrorOfMake(t *testing.T) {
	b := newBench(t)
	c := api.Command{Do: api.CmdMake, Volume: 8, A: 1, B: 5}
	b.fails("there, many, depth", upTo(8), c, api.ErrChunkThere)
	c.Volume = 9
	b.fails("many, depth", upTo(8), c, api.ErrChunkMany)
	b.fails("depth", upTo(7), c, api.ErrChunkSector)
	c.B = 4
	want := upTo(7)
	want.Vols = append(want.Vols, vol(9, 1, 0, 4, make([]string, 16)...))
	b.does("none", upTo(7), c, want)
}

// R1: whatever a state is, also where it is not valid, Run ends without a panic, and leaves it as it is.
func TestRunOnAnyState(t *testing.T) {
	b := newBench(t)
	for _, st := range append(invalidStates(), api.Chunk{Vols: []api.Vol{vol(1, 1, 0, 4), vol(1, 1, 0, 4, "a")}}, api.Chunk{Vols: []api.Vol{vol(1, 1, 0, math.MinInt, "a", "")}}) {
		for i := range st.Vols {
			st.Vols[i].Epoch = 0
		}
		for _, volume := range []uint64{1, 3} {
			k := b.issue(7, volume, most, 3)
			for do := range 7 {
				for _, sector := range []uint64{0, 2, 15, 63, most} {
					c := api.Command{Do: do, Volume: volume, Sector: sector, Token: k, A: 7, B: 4, Leaf: "x"}
					unchanged(t, "Run", st, func(x api.Chunk) {
						got, _, _ := Run(b.o, master, x, c)
						mark(t, "Run", got)
					})
					unchanged(t, "Apply", st, func(x api.Chunk) {
						got, _, _ := Apply(b.o, master, x, 50, sector, packByHand(c))
						mark(t, "Apply", got)
					})
				}
			}
		}
	}
}

// P13.4: random commands, each held against the document's words

// randomCommand is one that often does something.
func randomCommand(r *rand.Rand, tokens []api.Token) api.Command {
	volume := uint64(1 + r.Intn(10))
	c := api.Command{Do: r.Intn(6), Volume: volume, Token: tokens[r.Intn(len(tokens))], Sector: uint64(r.Intn(4)), A: uint64(r.Intn(5)), B: uint64(r.Intn(6))}
	if c.Do >= api.CmdPut && r.Intn(8) > 0 {
		c.Volume = c.Token.Volume
	}
	switch r.Intn(12) {
	case 0:
		c.Token.Tag++
	case 1:
		c.Sector = most - uint64(r.Intn(3))
	case 2:
		c.Do = r.Intn(12) - 3
	case 3:
		c.A = uint64(r.Intn(25))
	}
	if c.Do == api.CmdLimit {
		c.B = uint64(r.Intn(4))
	}
	c.Leaf = strings.Repeat(string(rune('a'+r.Intn(26))), []int{0, 1, 5, 63, 64, 65, 200, 1, 2, 3}[r.Intn(10)])
	return c
}

// randomTokens are some for each volume, of some epochs and rights.
func (b bench) randomTokens(r *rand.Rand) []api.Token {
	var l []api.Token
	for range 60 {
		l = append(l, b.issue(uint64(r.Intn(5)), uint64(1+r.Intn(9)), uint64(r.Intn(6)), uint64([]int{3, 3, 3, 1, 2, 0}[r.Intn(6)])))
	}
	return l
}

func TestRandomRuns(t *testing.T) {
	r := rand.New(rand.NewSource(133))
	count := map[api.Errno]int{}
	for range 50 {
		b := newBench(t)
		tokens := b.randomTokens(r)
		st := api.Chunk{}
		for range 150 {
			c := randomCommand(r, tokens)
			hand, e, s := runByHand(b.twin, master, st, c)
			next := b.runs("random", st, c, hand, e, s)
			count[e]++
			checks(t, "random", next, true)
			othersStay(t, c, st, next)
			if e == api.ErrTokenOld && !same(st, next) {
				t.Errorf("an old token changed %s to %s", brief(st), brief(next))
			}
			st = parses(t, "random", textByHand(next), next)
		}
	}
	for _, e := range []api.Errno{0, 70, 71, 72, 73, 120, 121, 130, 132, 133, 134, 135, 136} {
		if count[e] < 10 {
			t.Errorf("error %d came %d times only", e, count[e])
		}
	}
}

// othersStay asks that a command leaves all volumes but its own.
func othersStay(t *testing.T, c api.Command, st, next api.Chunk) {
	t.Helper()
	for i, v := range st.Vols {
		if v.Volume != c.Volume && !sameVol(v, next.Vols[i]) {
			t.Errorf("%v changed volume %d: %v to %v", c, v.Volume, v, next.Vols[i])
		}
	}
	if len(next.Vols) > len(st.Vols) && (len(next.Vols) != len(st.Vols)+1 || next.Vols[len(st.Vols)].Volume != c.Volume) {
		t.Errorf("%v: %s to %s", c, brief(st), brief(next))
	}
}
