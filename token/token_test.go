package token

import (
	"countersign/api"
	"countersign/ideal"
	"encoding/binary"
	"fmt"
	"math"
	"math/rand"
	"reflect"
	"strings"
	"testing"
)

const (
	past = uint64(1) << 63
	most = uint64(math.MaxUint64)
)

// five are a token's numbers in the order of the document.
type five [5]uint64

func (n five) token() api.Token {
	return api.Token{Tenant: n[0], Volume: n[1], Epoch: n[2], Rights: n[3], Tag: n[4]}
}

func fiveOf(t api.Token) five {
	return five{t.Tenant, t.Volume, t.Epoch, t.Rights, t.Tag}
}

// encode is numbers by the document's words, with the library's encoding of a number in wire's place.
func encode(numbers ...uint64) string {
	var s []byte
	for _, n := range numbers {
		s = binary.AppendUvarint(s, n)
	}
	return string(s)
}

func textByHand(t api.Token) string {
	return "token" + encode(t.Tenant, t.Volume, t.Epoch, t.Rights)
}

// issueByHand asks the oracle for what the document says, and for nothing else.
func issueByHand(o *ideal.Oracle, key uint64, n five) api.Token {
	t := n.token()
	t.Tag = o.Mac(key, textByHand(t))
	return t
}

// checkByHand holds all four errors against each other and takes the one of the least number.
func checkByHand(o *ideal.Oracle, key uint64, t api.Token, volume, epoch, want uint64) api.Errno {
	lacks := false
	for bit := range 64 {
		if want>>bit%2 == 1 && t.Rights>>bit%2 == 0 {
			lacks = true
		}
	}
	first := api.OK
	for _, c := range []struct {
		wrong bool
		e     api.Errno
	}{
		{lacks, api.ErrTokenRights},
		{t.Epoch < epoch, api.ErrTokenOld},
		{t.Volume != volume, api.ErrTokenVolume},
		{!o.Verify(key, textByHand(t), t.Tag), api.ErrTokenTag},
	} {
		if c.wrong {
			first = c.e
		}
	}
	return first
}

func issue(o *ideal.Oracle, key uint64, n five) api.Token {
	return Issue(o, key, n[0], n[1], n[2], n[3])
}

// numbers are ordinary ones, and those at the edges of one byte, of two, and of all.
func numbers() []uint64 {
	return []uint64{0, 1, 2, 3, 5, 127, 128, 300, 16383, 16384, past - 1, past, most - 1, most}
}

// fives returns all fives of some of the numbers.
func fives() []five {
	from := []uint64{0, 1, 127, 128, most}
	all := []five{{}}
	for at := range 5 {
		var more []five
		for _, n := range all {
			for _, v := range from {
				n[at] = v
				more = append(more, n)
			}
		}
		all = more
	}
	return all
}

// twins returns two oracles of the same draws.
func twins(draws ...uint64) (*ideal.Oracle, *ideal.Oracle) {
	return ideal.New(draws), ideal.New(draws)
}

func sameText(t *testing.T, name, got, want string) {
	t.Helper()
	if got != want {
		t.Errorf("%s: %q, want %q", name, got, want)
	}
}

func sameToken(t *testing.T, name string, got, want api.Token) {
	t.Helper()
	if got != want {
		t.Errorf("%s: %v, want %v", name, got, want)
	}
}

func noToken(t *testing.T, s string) {
	t.Helper()
	if x, ok := Parse(s); x != (api.Token{}) || ok {
		t.Errorf("%.60q: %v, %v; want no token, false", s, x, ok)
	}
}

// checks asks for one answer of Check, and that it draws nothing.
func checks(t *testing.T, name string, o *ideal.Oracle, key uint64, x api.Token, volume, epoch, want uint64, e api.Errno) {
	t.Helper()
	drawn := o.Drawn()
	if got := Check(o, key, x, volume, epoch, want); got != e {
		t.Errorf("%s: %d, want %d", name, got, e)
	}
	if o.Drawn() != drawn {
		t.Errorf("%s: %d drawn", name, o.Drawn()-drawn)
	}
}

// state asks for what an oracle tells of itself.
func state(t *testing.T, name string, o *ideal.Oracle, drawn int, bad bool) {
	t.Helper()
	if o.Drawn() != drawn || o.Bad() != bad {
		t.Errorf("%s: %d drawn, bad %v; want %d, %v", name, o.Drawn(), o.Bad(), drawn, bad)
	}
}

// alike holds two oracles against each other, with all that they keep.
func alike(t *testing.T, name string, o, twin *ideal.Oracle) {
	t.Helper()
	if !reflect.DeepEqual(o, twin) {
		t.Errorf("%s: the oracle is not as its queries by hand leave it", name)
	}
}

// P7.1

func TestPackOfTheExample(t *testing.T) {
	x := api.Token{Tenant: 1, Volume: 2, Epoch: 3, Rights: 3, Tag: 300}
	sameText(t, "pack", Pack(x), "\x01\x02\x03\x03\xac\x02")
	sameText(t, "text", Text(x), "token\x01\x02\x03\x03")
	got, ok := Parse("\x01\x02\x03\x03\xac\x02")
	sameToken(t, "parse", got, x)
	if !ok {
		t.Error("not taken")
	}
}

func TestTextIsFourNumbersInTheirOrder(t *testing.T) {
	sameText(t, "the zero token", Text(api.Token{}), "token\x00\x00\x00\x00")
	sameText(t, "tenant", Text(api.Token{Tenant: 128}), "token\x80\x01\x00\x00\x00")
	sameText(t, "volume", Text(api.Token{Volume: 128}), "token\x00\x80\x01\x00\x00")
	sameText(t, "epoch", Text(api.Token{Epoch: 128}), "token\x00\x00\x80\x01\x00")
	sameText(t, "rights", Text(api.Token{Rights: 128}), "token\x00\x00\x00\x80\x01")
	sameText(t, "tag", Text(api.Token{Tag: 128}), "token\x00\x00\x00\x00")
	sameText(t, "one byte, two", Text(api.Token{Tenant: 127, Volume: 128, Epoch: 16383, Rights: 16384}),
		"token\x7f\x80\x01\xff\x7f\x80\x80\x01")
	greatest := strings.Repeat("\xff", 9) + "\x01"
	sameText(t, "greatest", Text(five{most, most, most, most, most}.token()), "token"+strings.Repeat(greatest, 4))
}

func TestPackIsFiveNumbersInTheirOrder(t *testing.T) {
	sameText(t, "the zero token", Pack(api.Token{}), "\x00\x00\x00\x00\x00")
	sameText(t, "tenant", Pack(api.Token{Tenant: 128}), "\x80\x01\x00\x00\x00\x00")
	sameText(t, "volume", Pack(api.Token{Volume: 128}), "\x00\x80\x01\x00\x00\x00")
	sameText(t, "epoch", Pack(api.Token{Epoch: 128}), "\x00\x00\x80\x01\x00\x00")
	sameText(t, "rights", Pack(api.Token{Rights: 128}), "\x00\x00\x00\x80\x01\x00")
	sameText(t, "tag", Pack(api.Token{Tag: 128}), "\x00\x00\x00\x00\x80\x01")
	greatest := strings.Repeat("\xff", 9) + "\x01"
	sameText(t, "greatest", Pack(five{most, most, most, most, most}.token()), strings.Repeat(greatest, 5))
}

func TestEachFieldWithNumbersAtTheEdges(t *testing.T) {
	for at := range 5 {
		for _, v := range numbers() {
			n := five{1, 2, 3, 4, 5}
			n[at] = v
			x := n.token()
			sameText(t, "text", Text(x), "token"+encode(n[:4]...))
			sameText(t, "pack", Pack(x), encode(n[:]...))
			got, ok := Parse(encode(n[:]...))
			sameToken(t, "parse", got, x)
			if !ok {
				t.Errorf("%v: not taken", n)
			}
		}
	}
}

func TestTextAndPackOfManyTokens(t *testing.T) {
	texts, packs := map[string]five{}, map[string]five{}
	for _, n := range fives() {
		x := n.token()
		sameText(t, "text", Text(x), "token"+encode(n[:4]...))
		sameText(t, "pack", Pack(x), encode(n[:]...))
		if other, ok := packs[Pack(x)]; ok {
			t.Fatalf("%v and %v have one pack", other, n)
		}
		packs[Pack(x)] = n
		four := n
		four[4] = 0
		if other, ok := texts[Text(x)]; ok && other != four {
			t.Fatalf("%v and %v have one text", other, four)
		}
		texts[Text(x)] = four
	}
}

func TestParseOfAPackGivesItsToken(t *testing.T) {
	for _, n := range fives() {
		if x, ok := Parse(Pack(n.token())); x != n.token() || !ok {
			t.Fatalf("%v: %v, %v", n, x, ok)
		}
	}
}

func TestParseOfWhatIsTooShortOrTooLong(t *testing.T) {
	noToken(t, "")
	noToken(t, "\x01\x02\x03\x03")
	noToken(t, "token\x01\x02\x03\x03")
	for _, n := range fives() {
		s := Pack(n.token())
		for end := range len(s) {
			noToken(t, s[:end])
		}
		noToken(t, s+s)
	}
}

func TestParseOfOneByteMore(t *testing.T) {
	for _, n := range []five{{}, {1, 2, 3, 3, 300}, {most, most, most, most, most}, {127, 128, 0, 1, 127}} {
		for c := range 256 {
			noToken(t, Pack(n.token())+string([]byte{byte(c)}))
		}
	}
}

// Wherever one of the five numbers stands in another encoding than its own, or is none, there is no token.
func TestParseOfWhatIsNoEncoding(t *testing.T) {
	wrong := []string{
		"", "\x80\x00", "\x81\x00", "\xff\x00", "\x80\x80\x00", "\xac\x82\x00",
		strings.Repeat("\x80", 9) + "\x00",
		strings.Repeat("\xff", 9) + "\x02", strings.Repeat("\x80", 9) + "\x02", strings.Repeat("\xff", 9) + "\x03",
		strings.Repeat("\xff", 9) + "\x7f", strings.Repeat("\xff", 9) + "\x81\x00",
		strings.Repeat("\xff", 10), strings.Repeat("\x80", 10) + "\x01", strings.Repeat("\x80", 50),
	}
	for _, w := range wrong {
		for at := range 5 {
			parts := []string{"\x01", "\x02", "\x03", "\x03", "\x09"}
			parts[at] = w
			noToken(t, strings.Join(parts, ""))
		}
	}
	noToken(t, strings.Repeat("\x80", 1<<20))
	noToken(t, strings.Repeat("\x00", 1<<20))
}

// Whatever bytes Parse takes for a token are its pack, and the bytes of a pack are taken.
func TestParseOfAnyBytes(t *testing.T) {
	r := rand.New(rand.NewSource(7))
	some := []byte{0, 1, 7, 127, 128, 129, 255}
	taken := 0
	for range 200000 {
		b := make([]byte, r.Intn(10))
		for i := range b {
			b[i] = some[r.Intn(len(some))]
		}
		x, ok := Parse(string(b))
		if ok && Pack(x) != string(b) || !ok && x != (api.Token{}) {
			t.Fatalf("%q: %v, %v", b, x, ok)
		}
		if ok != isPack(b) {
			t.Fatalf("%q: %v", b, ok)
		}
		if ok {
			taken++
		}
	}
	if taken < 1000 {
		t.Errorf("only %d packs among the bytes", taken)
	}
}

// isPack tells a token's pack by the library's decoding, and by encoding again what that gives.
func isPack(b []byte) bool {
	var n five
	rest := b
	for i := range n {
		v, k := binary.Uvarint(rest)
		if k <= 0 {
			return false
		}
		n[i], rest = v, rest[k:]
	}
	return encode(n[:]...) == string(b)
}

// P7.2

func TestIssueGivesTheMacOfKeyAndText(t *testing.T) {
	o := ideal.New([]uint64{300})
	x := Issue(o, 9, 1, 2, 3, 3)
	sameToken(t, "issued", x, api.Token{Tenant: 1, Volume: 2, Epoch: 3, Rights: 3, Tag: 300})
	if h := o.Mac(9, "token\x01\x02\x03\x03"); h != 300 {
		t.Errorf("tagged by hand: %d, want 300", h)
	}
	state(t, "tagged by hand", o, 1, false)
	sameToken(t, "past the draws", Issue(o, 9, 1, 2, 4, 3), api.Token{Tenant: 1, Volume: 2, Epoch: 4, Rights: 3, Tag: past + 1})
	state(t, "past the draws", o, 2, false)
}

// A tag that was asked for by hand is the issued token's: Issue has no table of its own.
func TestIssueOfWhatWasTagged(t *testing.T) {
	o := ideal.New([]uint64{7, 9})
	h := o.Mac(1, "token\x02\x03\x04\x05")
	sameToken(t, "tagged", Issue(o, 1, 2, 3, 4, 5), five{2, 3, 4, 5, h}.token())
	state(t, "tagged", o, 1, false)
}

// The oracle ends as one Mac leaves it: nothing else was drawn, asked for or met.
func TestIssueAsksForOneMac(t *testing.T) {
	for _, n := range fives() {
		if n[4] != 0 {
			continue
		}
		for _, key := range []uint64{0, 1, most} {
			o, twin := twins(7)
			want := n
			want[4] = 7
			sameToken(t, "issued", issue(o, key, n), want.token())
			issueByHand(twin, key, n)
			state(t, "issued", o, 1, false)
			alike(t, "issued", o, twin)
		}
	}
}

func TestIssueAgain(t *testing.T) {
	o := ideal.New([]uint64{7, 9, 11})
	first := Issue(o, 1, 2, 3, 4, 5)
	other := Issue(o, 1, 2, 3, 5, 5)
	for range 3 {
		sameToken(t, "again", Issue(o, 1, 2, 3, 4, 5), first)
		sameToken(t, "the other again", Issue(o, 1, 2, 3, 5, 5), other)
	}
	state(t, "again", o, 2, false)
}

func TestIssueOfAnotherNumberHasAnotherTag(t *testing.T) {
	o := ideal.New(nil)
	at := [5]uint64{1, 2, 3, 4, 5}
	seen := map[uint64][5]uint64{Issue(o, 1, 2, 3, 4, 5).Tag: at}
	for i := range at {
		for _, v := range numbers() {
			n := at
			if n[i] == v {
				continue
			}
			n[i] = v
			tag := Issue(o, n[0], n[1], n[2], n[3], n[4]).Tag
			if other, ok := seen[tag]; ok {
				t.Errorf("%v and %v have one tag", other, n)
			}
			seen[tag] = n
		}
	}
	state(t, "all", o, len(seen), false)
}

// Issue meets nothing of what it is given: each of these numbers may be drawn later.
func TestIssueMeetsNothing(t *testing.T) {
	o := ideal.New([]uint64{70, 1, 2, 3, 4, 5})
	Issue(o, 1, 2, 3, 4, 5)
	for range 5 {
		o.Fresh()
	}
	state(t, "drawn", o, 6, false)
}

func TestCheckOfEachErrorAlone(t *testing.T) {
	o := ideal.New([]uint64{300})
	x := Issue(o, 9, 1, 2, 3, 3)
	checks(t, "none", o, 9, x, 2, 3, 3, api.OK)
	checks(t, "another key", o, 8, x, 2, 3, 3, api.ErrTokenTag)
	checks(t, "another volume", o, 9, x, 3, 3, 3, api.ErrTokenVolume)
	checks(t, "a later epoch", o, 9, x, 2, 4, 3, api.ErrTokenOld)
	checks(t, "another right", o, 9, x, 2, 3, 4, api.ErrTokenRights)
	checks(t, "one right more", o, 9, x, 2, 3, 7, api.ErrTokenRights)
	y := x
	y.Tag = 299
	checks(t, "another tag", o, 9, y, 2, 3, 3, api.ErrTokenTag)
	y.Tag = 0
	checks(t, "no tag", o, 9, y, 2, 3, 3, api.ErrTokenTag)
	y.Tag = most
	checks(t, "the greatest tag", o, 9, y, 2, 3, 3, api.ErrTokenTag)
	checks(t, "none again", o, 9, x, 2, 3, 3, api.OK)
	state(t, "all", o, 1, false)
}

// All sets of the four errors, so also every two of them: the first one in the document's order is returned.
func TestCheckOfErrorsTogether(t *testing.T) {
	order := []api.Errno{api.ErrTokenTag, api.ErrTokenVolume, api.ErrTokenOld, api.ErrTokenRights}
	for set := range 16 {
		o := ideal.New([]uint64{300})
		x := Issue(o, 9, 1, 2, 3, 3)
		first := api.OK
		for i := 3; i >= 0; i-- {
			if set>>i%2 == 1 {
				first = order[i]
			}
		}
		volume, epoch, want := uint64(2), uint64(3), uint64(3)
		if set>>1%2 == 1 {
			volume = 7
		}
		if set>>2%2 == 1 {
			epoch = 4
		}
		if set>>3%2 == 1 {
			want = 4
		}
		key := uint64(9)
		if set%2 == 1 {
			key = 8
		}
		checks(t, fmt.Sprintf("set %d", set), o, key, x, volume, epoch, want, first)
		state(t, fmt.Sprintf("set %d", set), o, 1, false)
		if set%2 == 1 {
			x.Tag = 301
			checks(t, fmt.Sprintf("set %d by its tag", set), o, 9, x, volume, epoch, want, first)
		}
	}
}

func TestCheckOfTheNumbersOfErrors(t *testing.T) {
	if api.ErrTokenTag != 70 || api.ErrTokenVolume != 71 || api.ErrTokenOld != 72 || api.ErrTokenRights != 73 {
		t.Error("other numbers than the document's")
	}
}

// No number of a volume is near enough to another one, be it less or greater.
func TestCheckOfVolumes(t *testing.T) {
	for _, is := range numbers() {
		o := ideal.New([]uint64{300})
		x := Issue(o, 9, 1, is, 3, 3)
		for _, asked := range numbers() {
			e := api.ErrTokenVolume
			if asked == is {
				e = api.OK
			}
			checks(t, fmt.Sprintf("volume %d for %d", is, asked), o, 9, x, asked, 3, 3, e)
		}
	}
}

func TestCheckOfEpochs(t *testing.T) {
	for _, is := range numbers() {
		o := ideal.New([]uint64{300})
		x := Issue(o, 9, 1, 2, is, 3)
		near := append(numbers(), is)
		if is > 0 {
			near = append(near, is-1)
		}
		if is < most {
			near = append(near, is+1)
		}
		for _, asked := range near {
			e := api.OK
			if is < asked {
				e = api.ErrTokenOld
			}
			checks(t, fmt.Sprintf("epoch %d at %d", is, asked), o, 9, x, 2, asked, 3, e)
		}
	}
}

func TestCheckOfEveryEpochUpToItsOwn(t *testing.T) {
	o := ideal.New([]uint64{300})
	x := Issue(o, 9, 1, 2, 1000, 3)
	for asked := range uint64(1001) {
		checks(t, "an earlier epoch", o, 9, x, 2, asked, 3, api.OK)
	}
	for asked := uint64(1001); asked < 2000; asked++ {
		checks(t, "a later epoch", o, 9, x, 2, asked, 3, api.ErrTokenOld)
	}
}

// rightsOf are no right, each single one, all but each single one, all, and some ordinary ones.
func rightsOf() []uint64 {
	l := []uint64{0, most, 3, 5, 6, 0xf0, past + 1}
	for bit := range 64 {
		l = append(l, 1<<bit, most-1<<bit)
	}
	return l
}

func TestCheckOfRights(t *testing.T) {
	for _, is := range rightsOf() {
		o := ideal.New([]uint64{300})
		x := Issue(o, 9, 1, 2, 3, is)
		for _, want := range rightsOf() {
			e := api.OK
			for bit := range 64 {
				if want>>bit%2 == 1 && is>>bit%2 == 0 {
					e = api.ErrTokenRights
				}
			}
			checks(t, fmt.Sprintf("rights %x for %x", is, want), o, 9, x, 2, 3, want, e)
		}
		checks(t, "no right", o, 9, x, 2, 3, 0, api.OK)
		checks(t, "its rights", o, 9, x, 2, 3, is, api.OK)
	}
}

func TestCheckOfTheRightsByName(t *testing.T) {
	o := ideal.New(nil)
	read := Issue(o, 9, 1, 2, 3, api.RightRead)
	write := Issue(o, 9, 1, 2, 3, api.RightWrite)
	checks(t, "read to read", o, 9, read, 2, 3, api.RightRead, api.OK)
	checks(t, "read to write", o, 9, read, 2, 3, api.RightWrite, api.ErrTokenRights)
	checks(t, "write to read", o, 9, write, 2, 3, api.RightRead, api.ErrTokenRights)
	checks(t, "write to write", o, 9, write, 2, 3, api.RightWrite, api.OK)
	checks(t, "read to both", o, 9, read, 2, 3, api.RightRead+api.RightWrite, api.ErrTokenRights)
}

// Check asks for one Verify, which tells of itself by what it meets: the tag that isn't there, and nothing else.
func TestCheckAsksForOneVerify(t *testing.T) {
	for _, n := range fives() {
		o, twin := twins(7)
		x := Issue(o, 9, 1, 2, 3, 3)
		twin.Mac(9, "token\x01\x02\x03\x03")
		checks(t, "issued", o, 9, x, n[1], n[2], n[3], checkByHand(twin, 9, x, n[1], n[2], n[3]))
		alike(t, "issued", o, twin)
		checks(t, "another token", o, 9, n.token(), 2, 3, 3, api.ErrTokenTag)
		twin.Verify(9, textByHand(n.token()), n[4])
		alike(t, "another token", o, twin)
		state(t, "all", o, 1, false)
	}
}

func TestCheckMeetsTheTagAlone(t *testing.T) {
	o := ideal.New([]uint64{1, 2, 3, 4, 5, 6, 7, 8, 9})
	checks(t, "nothing issued", o, 1, five{2, 3, 4, 5, 9}.token(), 6, 7, 8, api.ErrTokenTag)
	for range 8 {
		o.Fresh()
	}
	state(t, "the others drawn", o, 8, false)
	o.Fresh()
	state(t, "the tag drawn", o, 9, true)
}

// A tag that holds is met by none of the other errors: it was issued, and nothing else is presented to the oracle.
func TestCheckOfAnIssuedTokenChangesNothing(t *testing.T) {
	o, twin := twins(7)
	x := Issue(o, 9, 1, 2, 3, 3)
	twin.Mac(9, "token\x01\x02\x03\x03")
	checks(t, "volume", o, 9, x, 50, 3, 3, api.ErrTokenVolume)
	checks(t, "epoch", o, 9, x, 2, 51, 3, api.ErrTokenOld)
	checks(t, "rights", o, 9, x, 2, 3, 52, api.ErrTokenRights)
	checks(t, "none", o, 9, x, 2, 3, 3, api.OK)
	alike(t, "all", o, twin)
}

// What was tagged by hand as a token would be is accepted; what the other tables hold is not.
func TestCheckOfWhatWasTagged(t *testing.T) {
	o := ideal.New(nil)
	text := "token\x01\x02\x03\x03"
	h := o.Mac(9, text)
	checks(t, "tagged", o, 9, five{1, 2, 3, 3, h}.token(), 2, 3, 3, api.OK)
	for name, v := range map[string]uint64{
		"hashed": o.Hash(text), "sealed": o.Seal(9, 0, "", text), "sealed beside": o.Seal(9, 0, text, ""),
		"fresh": o.Fresh(), "without its word": o.Mac(9, text[5:]), "with its tag": o.Mac(9, text+encode(h)),
		"a key's": o.Mac(9, "key\x01"), "under another key": o.Mac(8, text),
	} {
		checks(t, name, o, 9, five{1, 2, 3, 3, v}.token(), 2, 3, 3, api.ErrTokenTag)
	}
	state(t, "all", o, 9, false)
}

// P7.3

func TestAnIssuedTokenIsAccepted(t *testing.T) {
	for _, n := range fives() {
		o := ideal.New([]uint64{300})
		key := n[4]
		x := issue(o, key, n)
		got, ok := Parse(Pack(x))
		sameToken(t, "packed", got, x)
		if !ok {
			t.Fatalf("%v: not taken", x)
		}
		for _, epoch := range []uint64{0, n[2] / 2, n[2]} {
			for _, want := range []uint64{0, n[3], n[3] & 1, n[3] / 2 * 2} {
				checks(t, "issued", o, key, got, n[1], epoch, want, api.OK)
			}
		}
		state(t, "issued", o, 1, false)
	}
}

// Whichever field is changed, and to whatever: the token is not accepted, even by one who asks for what it then says.
func TestATokenOfWhichOneFieldWasChangedIsNotAccepted(t *testing.T) {
	for _, n := range fives() {
		o := ideal.New([]uint64{300})
		x := issue(o, 9, n)
		for at := range 5 {
			for _, v := range append(numbers(), fiveOf(x)[at]-1, fiveOf(x)[at]+1, fiveOf(x)[at]^past) {
				changed := fiveOf(x)
				if changed[at] == v {
					continue
				}
				changed[at] = v
				y := changed.token()
				checks(t, "asked for what it says", o, 9, y, y.Volume, y.Epoch, y.Rights, api.ErrTokenTag)
				checks(t, "asked for what it said", o, 9, y, x.Volume, x.Epoch, x.Rights, api.ErrTokenTag)
				checks(t, "asked for little", o, 9, y, y.Volume, 0, 0, api.ErrTokenTag)
			}
		}
		checks(t, "unchanged", o, 9, x, x.Volume, x.Epoch, x.Rights, api.OK)
		state(t, "all", o, 1, false)
	}
}

// The fields of one issued token and the tag of another one are no token.
func TestTagsOfOtherTokensAreNotAccepted(t *testing.T) {
	o := ideal.New(nil)
	var all []api.Token
	for _, n := range fives() {
		if n[4] == 0 {
			all = append(all, issue(o, 9, n))
		}
	}
	r := rand.New(rand.NewSource(71))
	for range 20000 {
		x, y := all[r.Intn(len(all))], all[r.Intn(len(all))]
		e := api.ErrTokenTag
		if x == y {
			e = api.OK
		}
		x.Tag = y.Tag
		checks(t, "another's tag", o, 9, x, x.Volume, x.Epoch, x.Rights, e)
	}
	state(t, "all", o, len(all), false)
}

func TestATokenOfAnotherKeyIsNotAccepted(t *testing.T) {
	o := ideal.New(nil)
	for _, key := range numbers() {
		x := Issue(o, key, 1, 2, 3, 3)
		for _, other := range numbers() {
			e := api.ErrTokenTag
			if other == key {
				e = api.OK
			}
			checks(t, "another key", o, other, x, 2, 3, 3, e)
		}
	}
	state(t, "all", o, len(numbers()), false)
}

func TestNothingIssuedNothingAccepted(t *testing.T) {
	for _, n := range fives() {
		o := ideal.New(nil)
		x := n.token()
		checks(t, "nothing issued", o, n[4], x, x.Volume, x.Epoch, x.Rights, api.ErrTokenTag)
		checks(t, "nothing issued, nothing wanted", o, 0, x, x.Volume, 0, 0, api.ErrTokenTag)
		state(t, "nothing issued", o, 0, false)
	}
}

// A token that was presented ahead of its issue is not accepted; where its tag is drawn later, the oracle tells so.
func TestATokenPresentedAheadOfItsIssue(t *testing.T) {
	o := ideal.New([]uint64{300})
	guess := five{1, 2, 3, 3, 300}.token()
	checks(t, "ahead", o, 9, guess, 2, 3, 3, api.ErrTokenTag)
	state(t, "ahead", o, 0, false)
	sameToken(t, "issued", Issue(o, 9, 1, 2, 3, 3), guess)
	state(t, "issued", o, 1, true)
	checks(t, "behind", o, 9, guess, 2, 3, 3, api.OK)
}

// keyed is a token with the key under which it was issued.
type keyed struct {
	key uint64
	api.Token
}

// Small numbers lead to many near misses: a token is accepted if it is among those issued, and in no other case.
func TestOnlyIssuedTokensAreAccepted(t *testing.T) {
	r := rand.New(rand.NewSource(72))
	small := func() uint64 { return uint64(r.Intn(2)) }
	accepted, refused := 0, 0
	for range 300 {
		o := ideal.New(nil)
		issued := map[keyed]struct{}{}
		for range 40 {
			key, n := small(), five{small(), small(), small(), small(), past + uint64(r.Intn(8))}
			if r.Intn(4) == 0 {
				issued[keyed{key, issue(o, key, n)}] = struct{}{}
				continue
			}
			x := n.token()
			if x.Tag >= past+uint64(o.Drawn()) {
				// A guess of what will be drawn would be a bad event.
				x.Tag -= past
			}
			if _, ok := issued[keyed{key, x}]; ok {
				checks(t, "issued", o, key, x, x.Volume, x.Epoch, x.Rights, api.OK)
				accepted++
			} else {
				checks(t, "not issued", o, key, x, x.Volume, x.Epoch, x.Rights, api.ErrTokenTag)
				refused++
			}
		}
		state(t, "all", o, len(issued), false)
	}
	if accepted < 100 || refused < 1000 {
		t.Errorf("only %d accepted and %d refused", accepted, refused)
	}
}

// Random issues and checks, in between what else an oracle is asked for, with draws that come twice:
// it goes on as its queries by hand leave it.
func TestTokensBesideQueriesByHand(t *testing.T) {
	r := rand.New(rand.NewSource(73))
	small := func() uint64 { return uint64(r.Intn(3)) }
	for range 500 {
		draws := make([]uint64, r.Intn(20))
		for i := range draws {
			draws[i] = uint64(r.Intn(12))
		}
		o, twin := twins(draws...)
		var tokens []api.Token
		for range 30 {
			key, n := small(), five{small(), small(), small(), small(), uint64(r.Intn(12))}
			x := n.token()
			if len(tokens) > 0 && r.Intn(3) > 0 {
				x = tokens[r.Intn(len(tokens))]
			}
			switch r.Intn(6) {
			case 0:
				o.Meet(n[4])
				twin.Meet(n[4])
			case 1:
				o.Mac(key, textByHand(x))
				twin.Mac(key, textByHand(x))
			case 2, 3:
				x = issue(o, key, n)
				sameToken(t, "issue", x, issueByHand(twin, key, n))
				tokens = append(tokens, x)
			default:
				checks(t, "check", o, key, x, n[1], n[2], n[3], checkByHand(twin, key, x, n[1], n[2], n[3]))
			}
			alike(t, "random", o, twin)
		}
	}
}

// Nothing is kept from one oracle to the next.
func TestTokensOfOracleByOracle(t *testing.T) {
	a, b := ideal.New([]uint64{7}), ideal.New([]uint64{7})
	x := Issue(a, 9, 1, 2, 3, 3)
	checks(t, "the other", b, 9, x, 2, 3, 3, api.ErrTokenTag)
	checks(t, "one", a, 9, x, 2, 3, 3, api.OK)
	sameToken(t, "the other", Issue(b, 9, 1, 2, 3, 3), x)
	checks(t, "the other", b, 9, x, 2, 3, 3, api.OK)
	state(t, "the other, which met its tag", b, 1, true)
	state(t, "one", a, 1, false)
}
