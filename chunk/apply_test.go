package chunk

import (
	"countersign/api"
	"countersign/ideal"
	"encoding/binary"
	"fmt"
	"math"
	"math/rand"
	"slices"
	"strings"
	"testing"
)

// numberByHand is the number with whose encoding s begins, and how many bytes it has: 0 if there is none.
func numberByHand(s string) (uint64, int) {
	n, many := binary.Uvarint([]byte(s))
	if many < 1 || encode(n) != s[:many] {
		return 0, 0
	}
	return n, many
}

// recallByHand is the document's words of what is answered to a command that comes again.
func recallByHand(noted string) (api.Errno, string) {
	n, many := numberByHand(noted)
	if many == 0 {
		return 0, ""
	}
	e := api.Errno(n)
	if n >= past {
		e = api.Errno(-int(most-n) - 1)
	}
	rest := noted[many:]
	long, many := numberByHand(rest)
	if many == 0 || long > uint64(len(rest)-many) {
		return e, ""
	}
	return e, rest[many:][:long]
}

// notedOf is what is noted of an error and an answer.
func notedOf(e api.Errno, answer string) string {
	return encode(uint64(e)) + encode(uint64(len(answer))) + answer
}

// applyByHand is the document's words; session ids and numbers are looked for row by row.
func applyByHand(o *ideal.Oracle, key uint64, st api.Chunk, id, number uint64, cmd string) (api.Chunk, api.Errno, string) {
	var rows []api.Session
	for _, r := range st.Sessions {
		if r.Id != id {
			rows = append(rows, r)
			continue
		}
		if r.Number > number {
			return st, 131, ""
		}
		if r.Number == number {
			e, answer := recallByHand(r.Answer)
			return st, e, answer
		}
	}
	next, e, answer := copyOf(st), api.Errno(130), ""
	if c, ok := Unpack(cmd); ok {
		next, e, answer = runByHand(o, key, st, c)
	}
	next.Sessions = append(rows, api.Session{Id: id, Number: number, Answer: notedOf(e, answer)})
	if len(next.Sessions) == 17 {
		next.Sessions = next.Sessions[1:]
	}
	return next, e, answer
}

// applies asks Apply as runs asks Run.
func (b bench) applies(name string, st api.Chunk, id, number uint64, cmd string, want api.Chunk, e api.Errno, answer string) api.Chunk {
	b.Helper()
	hand, he, hs := applyByHand(b.twin, master, st, id, number, cmd)
	if !same(hand, want) || he != e || hs != answer {
		b.Errorf("%s: by hand %s, %d, %q; want %s, %d, %q", name, brief(hand), he, hs, brief(want), e, answer)
	}
	var again api.Chunk
	unchanged(b.T, name, st, func(x api.Chunk) {
		b.Helper()
		got, ge, gs := Apply(b.o, master, x, id, number, cmd)
		if !same(got, want) || ge != e || gs != answer {
			b.Errorf("%s: Apply(%d, %d, %.100q) to %s:\n%s, %d, %q; want\n%s, %d, %q", name, id, number, cmd, brief(st), brief(got), ge, gs, brief(want), e, answer)
		}
		again, _, _ = Apply(b.o, master, x, id, number, cmd)
		mark(b.T, name, got)
		if !same(again, want) {
			b.Errorf("%s: asked again %s, want %s", name, brief(again), brief(want))
		}
	})
	b.alike(name)
	return again
}

// noted is a state that has a session's row at the end of its rows, in place of one that it had.
func noted(st api.Chunk, id, number uint64, answer string) api.Chunk {
	c := copyOf(st)
	c.Sessions = slices.DeleteFunc(c.Sessions, func(r api.Session) bool { return r.Id == id })
	c.Sessions = append(c.Sessions, api.Session{Id: id, Number: number, Answer: answer})
	return c
}

// P13.3: what is new

func TestApplyOfEachCommand(t *testing.T) {
	b := newBench(t)
	k := b.issue(7, 1, 3, 3)
	made := held()
	made.Vols = append(made.Vols, vol(9, 7, 5, 1, "", ""))
	limited := held()
	limited.Quotas = append(limited.Quotas, api.Quota{Tenant: 8, Limit: 5})
	raised := held()
	raised.Vols[0].Epoch = 6
	for _, x := range []struct {
		c      api.Command
		want   api.Chunk
		answer string
	}{
		{api.Command{Do: api.CmdMake, Volume: 9, A: 7, B: 1, Sector: 5}, made, ""},
		{api.Command{Do: api.CmdEpoch, Volume: 1, A: 6}, raised, ""},
		{api.Command{Do: api.CmdEpoch, Volume: 1, A: 2}, held(), ""},
		{api.Command{Do: api.CmdLimit, A: 8, B: 5}, limited, ""},
		{api.Command{Do: api.CmdPut, Volume: 1, Sector: 1, Token: k, Leaf: "x"}, withLeaf(held(), 0, 1, "x"), ""},
		{api.Command{Do: api.CmdPut, Volume: 1, Sector: 0, Token: k, Leaf: "x"}, withLeaf(withQuota(held(), 1, 5, 9), 0, 0, "x"), ""},
		{api.Command{Do: api.CmdGet, Volume: 1, Sector: 1, Token: k}, held(), "leaf"},
		{api.Command{Do: api.CmdGet, Volume: 1, Sector: 0, Token: k}, held(), ""},
		{api.Command{Do: api.CmdTrim, Volume: 1, Sector: 1, Token: k}, withLeaf(withQuota(held(), 1, 3, 9), 0, 1, ""), ""},
	} {
		for _, id := range []uint64{0, 1, 50, 51, past, most} {
			for _, number := range []uint64{7, 300, most} {
				next := noted(x.want, id, number, notedOf(0, x.answer))
				b.applies("apply", held(), id, number, packByHand(x.c), next, api.OK, x.answer)
			}
		}
	}
}

func TestApplyNotesTheAnswerByteByByte(t *testing.T) {
	b := newBench(t)
	k := b.issue(7, 3, 3, 1)
	get := func(sector uint64) string {
		return packByHand(api.Command{Do: api.CmdGet, Volume: 3, Sector: sector, Token: k})
	}
	b.applies("short", held(), 5, 1, get(0), noted(held(), 5, 1, "\x00\x01a"), api.OK, "a")
	b.applies("none", held(), 5, 1, get(1), noted(held(), 5, 1, "\x00\x00"), api.OK, "")
	long := strings.Repeat("d", 64)
	b.applies("long", held(), 5, 1, get(3), noted(held(), 5, 1, "\x00\x40"+long), api.OK, long)
	b.applies("sector", held(), 5, 1, get(4), noted(held(), 5, 1, "\x85\x01\x00"), api.ErrChunkSector, "")
	b.applies("no command", held(), 5, 1, "", noted(held(), 5, 1, "\x82\x01\x00"), api.ErrChunkForm, "")
	b.applies("tag", held(), 5, 1, packByHand(api.Command{Do: api.CmdGet, Volume: 3}), noted(held(), 5, 1, "\x46\x00"), api.ErrTokenTag, "")
}

func TestApplyOfNoCommand(t *testing.T) {
	b := newBench(t)
	c := packByHand(api.Command{Do: api.CmdMake, Volume: 9})
	for _, cmd := range []string{
		"", "a", "anything", c[:len(c)-1], c + "\x00", "\x06" + c[1:], "\xff" + c[1:], strings.Repeat("\x00", 1000), strings.Repeat("\xff", 70000),
		packByHand(api.Command{Do: -1}), packByHand(api.Command{Do: 6}), packByHand(api.Command{Do: math.MaxInt}),
	} {
		for _, st := range []api.Chunk{{}, held(), fullState()} {
			want := noted(st, 5, 1, "\x82\x01\x00")
			want.Sessions = want.Sessions[max(0, len(want.Sessions)-16):]
			b.applies("no command", st, 5, 1, cmd, want, api.ErrChunkForm, "")
		}
	}
}

func TestApplyNotesEachError(t *testing.T) {
	b := newBench(t, 9000, 9001, 9002, 9003, 9004, 9005)
	k := b.issue(7, 1, 3, 3)
	old, mute, other := b.issue(7, 1, 2, 3), b.issue(7, 1, 3, 0), b.issue(7, 2, 3, 3)
	full := withQuota(held(), 1, 9, 9)
	many := upTo(8)
	many.Quotas = quotas(16)
	rest := withLeaf(held(), 1, 0, "")
	for _, x := range []struct {
		st api.Chunk
		c  api.Command
		e  api.Errno
	}{
		{held(), api.Command{Do: api.CmdMake, Volume: 1}, api.ErrChunkThere},
		{many, api.Command{Do: api.CmdMake, Volume: 90}, api.ErrChunkMany},
		{held(), api.Command{Do: api.CmdMake, Volume: 90, B: 5}, api.ErrChunkSector},
		{held(), api.Command{Do: api.CmdEpoch, Volume: 90}, api.ErrChunkVolume},
		{many, api.Command{Do: api.CmdLimit, A: 90}, api.ErrChunkMany},
		{held(), api.Command{Do: api.CmdPut, Volume: 90, Token: k, Leaf: "x"}, api.ErrChunkVolume},
		{held(), api.Command{Do: api.CmdPut, Volume: 1, Token: api.Token{Tag: 3}, Leaf: "x"}, api.ErrTokenTag},
		{held(), api.Command{Do: api.CmdPut, Volume: 1, Token: other, Leaf: "x"}, api.ErrTokenVolume},
		{held(), api.Command{Do: api.CmdTrim, Volume: 1, Token: old}, api.ErrTokenOld},
		{held(), api.Command{Do: api.CmdGet, Volume: 1, Token: mute}, api.ErrTokenRights},
		{held(), api.Command{Do: api.CmdGet, Volume: 1, Sector: 2, Token: k}, api.ErrChunkSector},
		{held(), api.Command{Do: api.CmdPut, Volume: 1, Token: k}, api.ErrChunkLong},
		{full, api.Command{Do: api.CmdPut, Volume: 1, Token: k, Leaf: "x"}, api.ErrQuotaOver},
		{rest, api.Command{Do: api.CmdPut, Volume: 2, Token: other, Leaf: "x"}, api.ErrQuotaTenant},
	} {
		next := b.applies("error", x.st, 5, 1, packByHand(x.c), noted(x.st, 5, 1, notedOf(x.e, "")), x.e, "")
		b.applies("again", next, 5, 1, packByHand(x.c), next, x.e, "")
	}
}

// P13.3: what is not new

func TestApplyOfAnOldNumber(t *testing.T) {
	b := newBench(t, 500, 600)
	k := b.issue(7, 1, 3, 3)
	for _, n := range []uint64{1, 2, 128, past, most} {
		st := noted(held(), 5, n, "\x00\x01a")
		for _, number := range []uint64{0, n / 2, n - 1} {
			for _, cmd := range []string{"", "x", packByHand(api.Command{Do: api.CmdMake, Volume: 9}), packByHand(api.Command{Do: api.CmdPut, Volume: 1, Token: k, Leaf: "x"}), packByHand(api.Command{Do: api.CmdGet, Volume: 1, Token: api.Token{Tag: 600}})} {
				b.applies("old", st, 5, number, cmd, st, api.ErrChunkOld, "")
			}
		}
	}
	// The oracle was shown no token: 600 is drawn without a bad event.
	if b.o.Fresh(); b.o.Bad() {
		t.Error("an old command's tag was met")
	}
}

func TestApplyAgain(t *testing.T) {
	b := newBench(t, 500, 600)
	k := b.issue(7, 1, 3, 3)
	get := packByHand(api.Command{Do: api.CmdGet, Volume: 1, Sector: 1, Token: k})
	put := packByHand(api.Command{Do: api.CmdPut, Volume: 1, Token: k, Leaf: "x"})
	st := b.applies("put", held(), 5, 1, put, noted(withLeaf(withQuota(held(), 1, 5, 9), 0, 0, "x"), 5, 1, "\x00\x00"), api.OK, "")
	st = b.applies("get", st, 5, 2, get, noted(st, 5, 2, "\x00\x04leaf"), api.OK, "leaf")
	// What comes again is answered from the note, whatever its command is now.
	for _, cmd := range []string{get, put, "", "anything", packByHand(api.Command{Do: api.CmdTrim, Volume: 1, Token: k}), packByHand(api.Command{Do: api.CmdGet, Volume: 1, Token: api.Token{Tag: 600}})} {
		b.applies("again", st, 5, 2, cmd, st, api.OK, "leaf")
	}
	b.applies("old", st, 5, 1, put, st, api.ErrChunkOld, "")
	// A later leaf, a later epoch and another session's commands do not change what was answered.
	st = b.applies("another put", st, 6, 1, packByHand(api.Command{Do: api.CmdPut, Volume: 1, Sector: 1, Token: k, Leaf: "y"}), noted(withLeaf(st, 0, 1, "y"), 6, 1, "\x00\x00"), api.OK, "")
	raised := copyOf(st)
	raised.Vols[0].Epoch = 9
	st = b.applies("epoch", st, 7, 1, packByHand(api.Command{Do: api.CmdEpoch, Volume: 1, A: 9}), noted(raised, 7, 1, "\x00\x00"), api.OK, "")
	b.applies("again", st, 5, 2, get, st, api.OK, "leaf")
	b.applies("new", st, 5, 3, get, noted(st, 5, 3, "\x48\x00"), api.ErrTokenOld, "")
	if b.o.Fresh(); b.o.Bad() {
		t.Error("the tag of a command that came again was met")
	}
}

func TestApplyAgainOfAnyNote(t *testing.T) {
	b := newBench(t)
	top := strings.Repeat("\xff", 9) + "\x01"
	for _, x := range []struct {
		answer string
		e      api.Errno
		s      string
	}{
		{"", 0, ""},
		{"\x80", 0, ""}, {"\x80\x00", 0, ""}, {"\x80\x00\x01a", 0, ""}, {"\xff\xff", 0, ""}, {strings.Repeat("\xff", 9) + "\x02\x01a", 0, ""}, {strings.Repeat("\x80", 200), 0, ""},
		{"\x07", 7, ""}, {"\xac\x02", 300, ""}, {"\x07\x01", 7, ""}, {"\x07\x02a", 7, ""}, {"\x07\x80\x00", 7, ""}, {"\x07\x80", 7, ""}, {"\x07\x81\x00a", 7, ""}, {"\x07" + top, 7, ""}, {"\x07" + top + "abc", 7, ""}, {"\x07\x80\x80\x80\x80\x80\x80\x80\x80\x80\x01abc", 7, ""},
		{"\x00\x00", 0, ""}, {"\x00\x01a", 0, "a"}, {"\x07\x00", 7, ""}, {"\x07\x01a", 7, "a"}, {"\x82\x01\x02ab", 130, "ab"},
		{"\x07\x01ab", 7, "a"}, {"\x07\x00ab", 7, ""}, {"\x07\x01a\x80", 7, "a"},
		{"\x07\x80\x01" + strings.Repeat("x", 128), 7, strings.Repeat("x", 128)}, {"\x07\xfd\x01" + strings.Repeat("y", 253), 7, strings.Repeat("y", 253)},
		{top + "\x01a", -1, "a"}, {top, -1, ""}, {"\xfe" + top[1:] + "\x00", -2, ""}, {"\x80\x80\x80\x80\x80\x80\x80\x80\x80\x01\x01a", math.MinInt, "a"},
		{"\xff\xff\xff\xff\xff\xff\xff\xff\x7f\x01a", math.MaxInt, "a"}, {top + "\x02a", -1, ""}, {"\x81\x80\x80\x80\x80\x80\x80\x80\x80\x01", math.MinInt + 1, ""},
	} {
		st := noted(held(), 5, 3, x.answer)
		for _, cmd := range []string{"", packByHand(api.Command{Do: api.CmdMake, Volume: 9})} {
			b.applies(fmt.Sprintf("note %q", x.answer), st, 5, 3, cmd, st, x.e, x.s)
		}
		first := withSessions(st, append([]api.Session{{Id: 5, Number: 3, Answer: x.answer}}, sessions(15)...))
		b.applies(fmt.Sprintf("note %q", x.answer), first, 5, 3, "", first, x.e, x.s)
		b.applies("old", st, 5, 2, "", st, api.ErrChunkOld, "")
		b.applies("new", st, 5, 4, "", noted(st, 5, 4, "\x82\x01\x00"), api.ErrChunkForm, "")
	}
}

func TestAppliedAgainBehindOtherSessions(t *testing.T) {
	b := newBench(t)
	k := b.issue(7, 1, 3, 3)
	get := packByHand(api.Command{Do: api.CmdGet, Volume: 1, Sector: 1, Token: k})
	st := b.applies("get", api.Chunk{Vols: held().Vols}, 5, 2, get, noted(api.Chunk{Vols: held().Vols}, 5, 2, "\x00\x04leaf"), api.OK, "leaf")
	for i := range 15 {
		want := noted(st, 100+uint64(i), 1, "\x82\x01\x00")
		st = b.applies("another", st, 100+uint64(i), 1, "", want, api.ErrChunkForm, "")
		b.applies("again", st, 5, 2, "", st, api.OK, "leaf")
		b.applies("old", st, 5, 1, "", st, api.ErrChunkOld, "")
	}
	want := noted(st, 200, 1, "\x82\x01\x00")
	want.Sessions = want.Sessions[1:]
	st = b.applies("the sixteenth", st, 200, 1, "", want, api.ErrChunkForm, "")
	// Its row is gone: it is new.
	want = noted(st, 5, 1, "\x82\x01\x00")
	want.Sessions = want.Sessions[1:]
	b.applies("forgotten", st, 5, 1, "", want, api.ErrChunkForm, "")
}

// P13.4

func TestRandomApplies(t *testing.T) {
	r := rand.New(rand.NewSource(134))
	count := map[api.Errno]int{}
	for range 40 {
		b := newBench(t)
		tokens := b.randomTokens(r)
		st := api.Chunk{}
		for range 150 {
			c := randomCommand(r, tokens)
			cmd := packByHand(c)
			if r.Intn(20) == 0 {
				cmd = cmd[:r.Intn(len(cmd))]
			}
			id, number := uint64(r.Intn(20)), uint64(r.Intn(6))
			hand, e, s := applyByHand(b.twin, master, st, id, number, cmd)
			next := b.applies("random", st, id, number, cmd, hand, e, s)
			count[e]++
			checks(t, "random", next, true)
			othersStay(t, c, st, next)
			if e == api.ErrTokenOld && (!slices.EqualFunc(st.Vols, next.Vols, sameVol) || !slices.Equal(st.Quotas, next.Quotas)) {
				t.Errorf("an old token changed %s to %s", brief(st), brief(next))
			}
			if e != api.ErrChunkOld {
				b.applies("again", next, id, number, cmd, next, e, s)
			}
			st = parses(t, "random", textByHand(next), next)
		}
	}
	for _, e := range []api.Errno{0, 70, 71, 72, 73, 120, 130, 131, 132, 133, 134, 136} {
		if count[e] < 5 {
			t.Errorf("error %d came %d times only", e, count[e])
		}
	}
}

// A state that is parsed from its text goes on in the same way, under an oracle of its own that was asked the same.
func TestAParsedStateGoesOnInTheSameWay(t *testing.T) {
	r := rand.New(rand.NewSource(135))
	for range 20 {
		b := newBench(t)
		tokens := b.randomTokens(r)
		one, two := api.Chunk{}, api.Chunk{}
		for i := range 200 {
			cmd := packByHand(randomCommand(r, tokens))
			id, number := uint64(r.Intn(20)), uint64(i/5)
			var e, f api.Errno
			var s, u string
			one, e, s = Apply(b.o, master, one, id, number, cmd)
			parsed, ok := Parse(Text(two))
			two, f, u = Apply(b.twin, master, parsed, id, number, cmd)
			if !ok || e != f || s != u || !same(one, two) || Text(one) != Text(two) {
				t.Fatalf("%s, %d, %q; parsed %s, %d, %q, %v", brief(one), e, s, brief(two), f, u, ok)
			}
		}
	}
}

// A command with a token of an epoch less than the volume's changes nothing but Sessions, and reveals nothing.
func TestAnOldTokenChangesNothing(t *testing.T) {
	b := newBench(t)
	for _, epoch := range []uint64{1, 2, 300, past, most} {
		st := withVol(held(), 0, vol(1, 7, epoch, 1, "", "leaf"))
		for _, less := range []uint64{0, epoch / 2, epoch - 1} {
			k := b.issue(7, 1, less, 3)
			for do := range leafDos() {
				for _, sector := range []uint64{0, 1, 2} {
					c := api.Command{Do: do, Volume: 1, Sector: sector, Token: k, Leaf: "new"}
					b.fails("old", st, c, api.ErrTokenOld)
					b.applies("old", st, 5, 1, packByHand(c), noted(st, 5, 1, "\x48\x00"), api.ErrTokenOld, "")
				}
			}
		}
	}
}

// R1 to R5

func TestApplyOfAnyArguments(t *testing.T) {
	b := newBench(t)
	for _, st := range []api.Chunk{{}, {Vols: []api.Vol{}, Sessions: []api.Session{}, Quotas: []api.Quota{}}} {
		for _, id := range []uint64{0, 1, most} {
			for _, number := range []uint64{0, 1, most} {
				b.applies("empty", st, id, number, "", api.Chunk{Sessions: []api.Session{{Id: id, Number: number, Answer: "\x82\x01\x00"}}}, api.ErrChunkForm, "")
				b.applies("long", st, id, number, strings.Repeat("\x05", 1<<20), api.Chunk{Sessions: []api.Session{{Id: id, Number: number, Answer: "\x82\x01\x00"}}}, api.ErrChunkForm, "")
			}
		}
	}
}

// Each call is the same when it is asked again: nothing is kept.
func TestNothingIsKept(t *testing.T) {
	o := ideal.New(nil)
	for _, st := range validStates() {
		one, e, s := Apply(o, 1, st, 5, 1, packByHand(api.Command{Do: api.CmdMake, Volume: 9}))
		Apply(o, 1, one, 5, 2, packByHand(api.Command{Do: api.CmdLimit, A: 9, B: 9}))
		Parse(Text(one))
		two, f, u := Apply(o, 1, st, 5, 1, packByHand(api.Command{Do: api.CmdMake, Volume: 9}))
		if !same(one, two) || e != f || s != u {
			t.Errorf("%s, %d, %q, then %s, %d, %q", brief(one), e, s, brief(two), f, u)
		}
	}
}

func TestExample(t *testing.T) {
	b := newBench(t)
	k := b.issue(7, 1, 0, 2)
	st := b.does("make", api.Chunk{}, api.Command{Do: api.CmdMake, Volume: 1, A: 7, B: 1}, api.Chunk{Vols: []api.Vol{vol(1, 7, 0, 1, "", "")}})
	st = b.does("limit", st, api.Command{Do: api.CmdLimit, A: 7, B: 1}, api.Chunk{Vols: st.Vols, Quotas: []api.Quota{{Tenant: 7, Limit: 1}}})
	put := api.Command{Do: api.CmdPut, Volume: 1, Token: k, Leaf: "x"}
	st = b.does("put", st, put, withLeaf(withQuota(st, 0, 1, 1), 0, 0, "x"))
	put.Sector = 1
	b.fails("another put", st, put, api.ErrQuotaOver)
	st = b.does("epoch", st, api.Command{Do: api.CmdEpoch, Volume: 1, A: 1}, withVol(st, 0, vol(1, 7, 1, 1, "x", "")))
	put.Sector = 0
	b.fails("an old token", st, put, api.ErrTokenOld)
}
