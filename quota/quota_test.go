package quota

import (
	"countersign/api"
	"encoding/binary"
	"fmt"
	"math"
	"math/big"
	"math/rand"
	"slices"
	"strings"
	"testing"
)

const most = uint64(math.MaxUint64)

// row is a row as it is written in a list.
func row(tenant, used, limit uint64) api.Quota {
	return api.Quota{Tenant: tenant, Used: used, Limit: limit}
}

// table is rows of these tenants, each with numbers that tell its place.
func table(tenants ...uint64) []api.Quota {
	var t []api.Quota
	for i, n := range tenants {
		t = append(t, row(n, uint64(i)+100, uint64(i)+200))
	}
	return t
}

// upTo is a table of so many rows, whose tenants are 1, 2, ..
func upTo(many int) []api.Quota {
	var tenants []uint64
	for i := range many {
		tenants = append(tenants, uint64(i)+1)
	}
	return table(tenants...)
}

// with is a table that has another row at a place.
func with(t []api.Quota, at int, r api.Quota) []api.Quota {
	l := append([]api.Quota{}, t...)
	l[at] = r
	return l
}

// firstByHand goes through all rows from the end, so that the first one has the last word.
func firstByHand(t []api.Quota, tenant uint64) int {
	at := -1
	for i := len(t) - 1; i >= 0; i-- {
		if t[i].Tenant == tenant {
			at = i
		}
	}
	return at
}

func setByHand(t []api.Quota, tenant, limit uint64) ([]api.Quota, bool) {
	if at := firstByHand(t, tenant); at != -1 {
		return with(t, at, row(tenant, t[at].Used, limit)), true
	}
	if len(t) > 15 {
		return nil, false
	}
	return append(append([]api.Quota{}, t...), row(tenant, 0, limit)), true
}

// bigOf makes a number one whose sums do not wrap round.
func bigOf(n uint64) *big.Int {
	return new(big.Int).SetUint64(n)
}

func takeByHand(t []api.Quota, tenant, n uint64) ([]api.Quota, api.Errno) {
	at := firstByHand(t, tenant)
	if at == -1 {
		return nil, 120
	}
	sum := new(big.Int).Add(bigOf(t[at].Used), bigOf(n))
	if sum.Cmp(bigOf(t[at].Limit)) > 0 {
		return nil, 121
	}
	return with(t, at, row(tenant, sum.Uint64(), t[at].Limit)), 0
}

func giveByHand(t []api.Quota, tenant, n uint64) ([]api.Quota, api.Errno) {
	at := firstByHand(t, tenant)
	if at == -1 {
		return nil, 120
	}
	left := new(big.Int).Sub(bigOf(t[at].Used), bigOf(n))
	if left.Sign() < 0 {
		left = bigOf(0)
	}
	return with(t, at, row(tenant, left.Uint64(), t[at].Limit)), 0
}

func checkByHand(t []api.Quota) bool {
	tenants := map[uint64]int{}
	for _, r := range t {
		tenants[r.Tenant]++
		if tenants[r.Tenant] == 2 {
			return false
		}
	}
	return len(t) < 17
}

// textByHand is the document's words, with the library's encoding of a number in wire's place.
func textByHand(t []api.Quota) string {
	s := binary.AppendUvarint(nil, uint64(len(t)))
	for _, r := range t {
		s = binary.AppendUvarint(s, r.Tenant)
		s = binary.AppendUvarint(s, r.Used)
		s = binary.AppendUvarint(s, r.Limit)
	}
	return string(s)
}

// brief tells a table, but not all of a long one.
func brief(t []api.Quota) string {
	var l []string
	for _, r := range t[:min(len(t), 40)] {
		l = append(l, fmt.Sprintf("%d/%d/%d", r.Tenant, r.Used, r.Limit))
	}
	return fmt.Sprint(len(t), " rows: ", l)
}

// unchanged runs a call on a table in memory that goes on behind it, with a row of each tenant in use,
// and asks that the call changes none of the rows, and does not look behind the table.
func unchanged(t *testing.T, name string, rows []api.Quota, call func([]api.Quota)) {
	behind := []api.Quota{row(1, 7, 1000), row(17, 8, 1000), row(0, 9, 1000), row(most, 10, 1000)}
	whole := append(append([]api.Quota{}, rows...), behind...)
	before := slices.Clone(whole)
	call(whole[:len(rows)])
	if !slices.Equal(whole, before) {
		t.Helper()
		t.Errorf("%s changed its table:\n%s, was\n%s", name, brief(whole), brief(before))
	}
}

// spoils overwrites all of a table, also what its memory has behind it.
func spoils(t []api.Quota) {
	t = t[:cap(t)]
	for i := range t {
		t[i] = row(666, 666, 666)
	}
}

// apart spoils what a call returned, and asks that another result of the same call stays as it is.
func apart(t *testing.T, name string, one, two, want []api.Quota) {
	if len(one) != 0 && len(two) != 0 && &one[0] == &two[0] {
		t.Helper()
		t.Errorf("%s returned the same memory twice", name)
	}
	spoils(one)
	if !slices.Equal(two, want) {
		t.Helper()
		t.Errorf("%s shares what it returned: %s", name, brief(two))
	}
}

// sets asks Set for a table, and that what it returns shares nothing with what it was given.
func sets(t *testing.T, rows []api.Quota, tenant, limit uint64, want []api.Quota) []api.Quota {
	t.Helper()
	var again []api.Quota
	unchanged(t, "Set", rows, func(x []api.Quota) {
		t.Helper()
		got, ok := Set(x, tenant, limit)
		if !slices.Equal(got, want) || !ok {
			t.Errorf("Set(%d, %d) of %s:\n%s, %v; want\n%s, true", tenant, limit, brief(rows), brief(got), ok, brief(want))
		}
		again, _ = Set(x, tenant, limit)
		apart(t, "Set", got, again, want)
	})
	return again
}

func noSet(t *testing.T, rows []api.Quota, tenant, limit uint64) {
	t.Helper()
	unchanged(t, "Set", rows, func(x []api.Quota) {
		t.Helper()
		if got, ok := Set(x, tenant, limit); len(got) != 0 || ok {
			t.Errorf("Set(%d, %d) of %s: %s, %v; want no table, false", tenant, limit, brief(rows), brief(got), ok)
		}
	})
}

// mover is Take or Give.
type mover struct {
	name string
	call func([]api.Quota, uint64, uint64) ([]api.Quota, api.Errno)
}

var (
	taking = mover{"Take", Take}
	giving = mover{"Give", Give}
)

// moves asks Take or Give for a table, and that what it returns shares nothing with what it was given.
func moves(t *testing.T, m mover, rows []api.Quota, tenant, n uint64, want []api.Quota) []api.Quota {
	t.Helper()
	var again []api.Quota
	unchanged(t, m.name, rows, func(x []api.Quota) {
		t.Helper()
		got, e := m.call(x, tenant, n)
		if !slices.Equal(got, want) || e != api.OK {
			t.Errorf("%s(%d, %d) of %s:\n%s, %d; want\n%s, 0", m.name, tenant, n, brief(rows), brief(got), e, brief(want))
		}
		again, _ = m.call(x, tenant, n)
		apart(t, m.name, got, again, want)
	})
	return again
}

func takes(t *testing.T, rows []api.Quota, tenant, n uint64, want []api.Quota) []api.Quota {
	t.Helper()
	return moves(t, taking, rows, tenant, n, want)
}

func gives(t *testing.T, rows []api.Quota, tenant, n uint64, want []api.Quota) []api.Quota {
	t.Helper()
	return moves(t, giving, rows, tenant, n, want)
}

// fails asks Take or Give for an error, and for no table beside it.
func fails(t *testing.T, m mover, rows []api.Quota, tenant, n uint64, want api.Errno) {
	t.Helper()
	unchanged(t, m.name, rows, func(x []api.Quota) {
		t.Helper()
		if got, e := m.call(x, tenant, n); len(got) != 0 || e != want {
			t.Errorf("%s(%d, %d) of %s: %s, %d; want no table, %d", m.name, tenant, n, brief(rows), brief(got), e, want)
		}
	})
}

func over(t *testing.T, rows []api.Quota, tenant, n uint64) {
	t.Helper()
	fails(t, taking, rows, tenant, n, api.ErrQuotaOver)
}

func noTenant(t *testing.T, rows []api.Quota, tenant, n uint64) {
	t.Helper()
	fails(t, taking, rows, tenant, n, api.ErrQuotaTenant)
	fails(t, giving, rows, tenant, n, api.ErrQuotaTenant)
}

func checks(t *testing.T, name string, rows []api.Quota, want bool) {
	t.Helper()
	unchanged(t, "Check", rows, func(x []api.Quota) {
		t.Helper()
		if got := Check(x); got != want {
			t.Errorf("%s: Check %v, want %v: %s", name, got, want, brief(rows))
		}
	})
}

func tells(t *testing.T, name string, rows []api.Quota, want string) {
	t.Helper()
	unchanged(t, "Text", rows, func(x []api.Quota) {
		t.Helper()
		if got := Text(x); got != want {
			t.Errorf("%s: %.200q, want %.200q", name, got, want)
		}
	})
}

func parses(t *testing.T, name, s string, want []api.Quota) {
	t.Helper()
	if got, ok := Parse(s); !slices.Equal(got, want) || !ok {
		t.Errorf("%s: %s, %v; want %s, true", name, brief(got), ok, brief(want))
	}
}

func noTable(t *testing.T, name, s string) {
	t.Helper()
	if got, ok := Parse(s); len(got) != 0 || ok {
		t.Errorf("%s: %s, %v; want no table, false: %.100q", name, brief(got), ok, s)
	}
}

// numbers are ordinary ones, and those at the edges of their encodings and of the wrap-round.
func numbers() []uint64 {
	l := []uint64{0, 1, 2, 5, 300, 1<<63 + 1, most - 1, most}
	for bits := 7; bits < 64; bits += 7 {
		l = append(l, 1<<bits-1, 1<<bits)
	}
	return l
}

// few are numbers at the edges alone.
func few() []uint64 {
	return []uint64{0, 1, 2, 3, 100, 1<<63 - 1, 1 << 63, most - 1, most}
}

// validTables are such at each edge of what is valid.
func validTables() [][]api.Quota {
	l := [][]api.Quota{nil, {}, {row(0, 0, 0)}, {row(most, most, most)}, {row(1, 5, 4)}, {row(1, most, 0), row(2, 1, 0)}}
	for many := range 17 {
		l = append(l, upTo(many))
	}
	for _, n := range numbers() {
		l = append(l, []api.Quota{row(n, 1, 2)}, []api.Quota{row(1, n, 2)}, []api.Quota{row(1, 2, n)}, []api.Quota{row(n, n, n), row(n+1, n, n)})
	}
	full := upTo(16)
	for i := range full {
		full[i] = row(most-uint64(i), most-uint64(i), most-uint64(16-i))
	}
	return append(l, full)
}

// invalidTables are such in one of the two ways, just beyond the edge, and in both.
func invalidTables() [][]api.Quota {
	l := [][]api.Quota{upTo(17), upTo(18), upTo(100), table(1, 1), table(0, 0), table(most, most), table(1, 1, 2), table(1, 2, 1), table(1, 2, 2), table(3, 1, 2, 3)}
	for i := range 16 {
		for j := range i {
			t := upTo(16)
			t[i].Tenant = t[j].Tenant
			l = append(l, t)
		}
	}
	same := row(5, 5, 5)
	return append(l, []api.Quota{same, same}, slices.Repeat([]api.Quota{same}, 17), slices.Repeat([]api.Quota{{}}, 130))
}

// P12.1

func TestSetAppends(t *testing.T) {
	for _, limit := range numbers() {
		for _, tenant := range numbers() {
			sets(t, nil, tenant, limit, []api.Quota{row(tenant, 0, limit)})
			sets(t, []api.Quota{}, tenant, limit, []api.Quota{row(tenant, 0, limit)})
		}
		sets(t, []api.Quota{row(2, 5, 6)}, 1, limit, []api.Quota{row(2, 5, 6), row(1, 0, limit)})
		sets(t, []api.Quota{row(0, 5, 6), row(3, 8, 7)}, 1, limit, []api.Quota{row(0, 5, 6), row(3, 8, 7), row(1, 0, limit)})
	}
}

func TestSetChangesTheRowOfItsTenant(t *testing.T) {
	for _, many := range []int{1, 2, 3, 8, 15, 16, 17, 18, 40, 300} {
		rows := upTo(many)
		for i, r := range rows {
			for _, limit := range []uint64{0, 1, r.Used - 1, r.Used, r.Used + 1, r.Limit, r.Limit + 1, most} {
				sets(t, rows, r.Tenant, limit, with(rows, i, row(r.Tenant, r.Used, limit)))
			}
		}
	}
}

// Used stays whatever the limit is, also where it is greater.
func TestSetLeavesUsed(t *testing.T) {
	for at := range 3 {
		for _, used := range few() {
			for _, limit := range few() {
				for _, before := range few() {
					rows := with(table(11, 12, 13), at, row(4, used, before))
					sets(t, rows, 4, limit, with(rows, at, row(4, used, limit)))
				}
			}
		}
	}
}

// twins is a table in which tenant 4 has more than one row, the first one of them at a place.
type twins struct {
	rows []api.Quota
	at   int
}

func twice() []twins {
	first, second := row(4, 10, 20), row(4, 30, 90)
	return []twins{
		{[]api.Quota{first, second}, 0},
		{[]api.Quota{first, row(5, 1, 2), second}, 0},
		{[]api.Quota{row(5, 1, 2), first, second}, 1},
		{[]api.Quota{row(5, 1, 2), first, row(6, 1, 2), second, row(7, 1, 2)}, 1},
		{[]api.Quota{row(3, 1, 2), row(5, 1, 2), first, second, first, second}, 2},
		{[]api.Quota{first, first, first}, 0},
		{append(append(table(1, 2, 3), first), append(slices.Repeat([]api.Quota{row(9, 9, 9)}, 20), second)...), 3},
		{append(append(table(1, 2, 3), first), append(table(21, 22, 23, 24, 25, 26, 27, 28, 29, 30, 31), second)...), 3},
	}
}

func TestSetChangesTheFirstRowAlone(t *testing.T) {
	for _, x := range twice() {
		for _, limit := range numbers() {
			sets(t, x.rows, 4, limit, with(x.rows, x.at, row(4, 10, limit)))
		}
	}
}

func TestSetOfManyRows(t *testing.T) {
	for many := range 30 {
		rows := upTo(many)
		for _, tenant := range []uint64{0, uint64(many) + 1, 1 << 63, most} {
			for _, limit := range []uint64{0, 1, most} {
				if many < 16 {
					sets(t, rows, tenant, limit, append(slices.Clone(rows), row(tenant, 0, limit)))
				} else {
					noSet(t, rows, tenant, limit)
				}
			}
		}
		for i, r := range rows {
			sets(t, rows, r.Tenant, 5, with(rows, i, row(r.Tenant, r.Used, 5)))
		}
	}
	noSet(t, upTo(1000), 0, 1)
	noSet(t, slices.Repeat([]api.Quota{row(1, 1, 1)}, 16), 2, 1)
	sets(t, slices.Repeat([]api.Quota{row(1, 1, 1)}, 15), 2, 1, append(slices.Repeat([]api.Quota{row(1, 1, 1)}, 15), row(2, 0, 1)))
	sets(t, upTo(1000), 1000, 1, with(upTo(1000), 999, row(1000, 1099, 1)))
}

// A row is of its tenant by Tenant alone, not by a number beside it.
func TestOtherNumbersAreNoTenant(t *testing.T) {
	rows := []api.Quota{row(1, 4, 4), row(2, 4, 4)}
	sets(t, rows, 4, 7, append(slices.Clone(rows), row(4, 0, 7)))
	noTenant(t, rows, 4, 0)
	for _, n := range []uint64{1 << 8, 1 << 16, 1 << 32, 1 << 63} {
		noTenant(t, rows, n+1, 0)
		sets(t, rows, n+1, 7, append(slices.Clone(rows), row(n+1, 0, 7)))
	}
}

// P12.2: Take

func TestTake(t *testing.T) {
	for _, x := range []struct{ used, limit, n uint64 }{
		{0, 0, 0}, {0, 1, 0}, {0, 1, 1}, {0, 3, 2}, {0, 3, 3}, {2, 3, 0}, {2, 3, 1}, {3, 3, 0}, {0, most, 0}, {0, most, most}, {0, most, most - 1},
		{1, most, most - 1}, {most, most, 0}, {most - 1, most, 1}, {most - 1, most - 1, 0}, {1 << 63, most, 1<<63 - 1}, {1<<63 - 1, most, 1 << 63}, {127, 128, 1},
	} {
		takes(t, []api.Quota{row(1, x.used, x.limit)}, 1, x.n, []api.Quota{row(1, x.used+x.n, x.limit)})
	}
}

func TestTakeOfTooMany(t *testing.T) {
	for _, x := range []struct{ used, limit, n uint64 }{
		{0, 0, 1}, {0, 1, 2}, {0, 3, 4}, {2, 3, 2}, {3, 3, 1}, {2, 3, most}, {0, 0, most}, {3, 3, most}, {0, most - 1, most}, {0, 3, most}, {1 << 62, 1 << 63, 1<<62 + 1},
	} {
		over(t, []api.Quota{row(1, x.used, x.limit)}, 1, x.n)
	}
}

// Where Used is greater than Limit, not even nothing can be taken.
func TestTakeAboveTheLimit(t *testing.T) {
	for _, x := range []struct{ used, limit uint64 }{{1, 0}, {5, 4}, {5, 0}, {most, 0}, {most, most - 1}, {1 << 63, 1<<63 - 1}, {1 << 63, 1}} {
		for _, n := range numbers() {
			over(t, []api.Quota{row(1, x.used, x.limit)}, 1, n)
		}
	}
}

// The sum that wraps round is not greater than Limit, the one that does not is.
func TestTakeDoesNotWrapRound(t *testing.T) {
	for _, x := range []struct{ used, limit, n uint64 }{
		{1, 1, most}, {1, 5, most}, {5, 5, most}, {5, 4, most}, {2, most, most}, {1, most, most}, {most, most, 1}, {most, most, most}, {most, most, 2},
		{most - 1, most, 2}, {1 << 63, most, 1 << 63}, {1 << 63, 1 << 63, 1 << 63}, {3, 3, most - 2}, {3, most, most - 2}, {most, 0, 1}, {most, most - 1, most},
	} {
		if x.used+x.n >= x.used || x.used+x.n > x.limit {
			t.Fatal("the sum does not wrap round to such a one:", x)
		}
		over(t, []api.Quota{row(1, x.used, x.limit)}, 1, x.n)
		over(t, []api.Quota{row(2, 0, most), row(1, x.used, x.limit), row(3, 0, most)}, 1, x.n)
	}
}

// P12.2: Give

func TestGive(t *testing.T) {
	for _, x := range []struct{ used, n, left uint64 }{
		{0, 0, 0}, {0, 1, 0}, {0, most, 0}, {5, 0, 5}, {5, 1, 4}, {5, 4, 1}, {5, 5, 0}, {5, 6, 0}, {5, most, 0}, {most, 0, most}, {most, 1, most - 1},
		{most, most - 1, 1}, {most, most, 0}, {most - 1, most, 0}, {1 << 63, 1 << 63, 0}, {1 << 63, 1<<63 + 1, 0}, {1 << 63, 1<<63 - 1, 1}, {1, 1 << 63, 0},
	} {
		for _, limit := range few() {
			gives(t, []api.Quota{row(1, x.used, limit)}, 1, x.n, []api.Quota{row(1, x.left, limit)})
			rows := []api.Quota{row(2, 9, 8), row(1, x.used, limit), row(3, 9, 10)}
			gives(t, rows, 1, x.n, with(rows, 1, row(1, x.left, limit)))
		}
	}
}

// P12.2: both

func TestTakeAndGiveOfEachRow(t *testing.T) {
	for _, many := range []int{1, 2, 3, 8, 15, 16, 17, 18, 40, 300} {
		rows := upTo(many)
		for i, r := range rows {
			for _, n := range []uint64{0, 1, 99, 100} {
				takes(t, rows, r.Tenant, n, with(rows, i, row(r.Tenant, r.Used+n, r.Limit)))
				gives(t, rows, r.Tenant, n, with(rows, i, row(r.Tenant, r.Used-n, r.Limit)))
			}
			over(t, rows, r.Tenant, 101)
			over(t, rows, r.Tenant, most)
			gives(t, rows, r.Tenant, most, with(rows, i, row(r.Tenant, 0, r.Limit)))
		}
	}
}

func TestTakeAndGiveOfNoTenant(t *testing.T) {
	for _, n := range numbers() {
		for _, rows := range [][]api.Quota{nil, {}, table(2), table(2, 3), upTo(16), upTo(17), upTo(50), {row(2, most, 0)}, {row(2, 0, most)}} {
			noTenant(t, rows, 0, n)
			noTenant(t, rows, most, n)
			noTenant(t, rows, 51, n)
		}
	}
}

func TestTakeAndGiveChangeTheFirstRowAlone(t *testing.T) {
	for _, x := range twice() {
		for n := range uint64(11) {
			takes(t, x.rows, 4, n, with(x.rows, x.at, row(4, 10+n, 20)))
			gives(t, x.rows, 4, n, with(x.rows, x.at, row(4, 10-n, 20)))
		}
		for _, n := range []uint64{11, 50, 60, 61, most - 9, most} {
			over(t, x.rows, 4, n)
			gives(t, x.rows, 4, n, with(x.rows, x.at, row(4, 0, 20)))
		}
	}
}

// A second row that has room, or is over its limit, does not count.
func TestTheSecondRowDoesNotCount(t *testing.T) {
	over(t, []api.Quota{row(1, 3, 3), row(1, 0, most)}, 1, 1)
	over(t, []api.Quota{row(1, 4, 3), row(1, 0, most)}, 1, 0)
	takes(t, []api.Quota{row(1, 0, 3), row(1, 4, 3)}, 1, 3, []api.Quota{row(1, 3, 3), row(1, 4, 3)})
	gives(t, []api.Quota{row(1, 0, 3), row(1, 4, 3)}, 1, 3, []api.Quota{row(1, 0, 3), row(1, 4, 3)})
}

func TestEachUsedLimitAndNumber(t *testing.T) {
	l := append(numbers(), 3, 4, 1<<63-1, most-2)
	for _, used := range l {
		for _, limit := range l {
			rows := []api.Quota{row(8, 1, 2), row(1, used, limit)}
			for _, n := range l {
				asByHand(t, rows, 1, n)
			}
		}
	}
}

// asByHand asks the three calls that change a table for what the document's words say.
func asByHand(t *testing.T, rows []api.Quota, tenant, n uint64) {
	t.Helper()
	if want, ok := setByHand(rows, tenant, n); ok {
		sets(t, rows, tenant, n, want)
	} else {
		noSet(t, rows, tenant, n)
	}
	if want, e := takeByHand(rows, tenant, n); e == 0 {
		takes(t, rows, tenant, n, want)
	} else {
		fails(t, taking, rows, tenant, n, e)
	}
	if want, e := giveByHand(rows, tenant, n); e == 0 {
		gives(t, rows, tenant, n, want)
	} else {
		fails(t, giving, rows, tenant, n, e)
	}
}

// P12.3: Check

func TestCheck(t *testing.T) {
	for i, rows := range validTables() {
		checks(t, fmt.Sprint("valid ", i), rows, true)
	}
	for i, rows := range invalidTables() {
		checks(t, fmt.Sprint("not valid ", i), rows, false)
	}
}

func TestCheckOfRows(t *testing.T) {
	for many := range 40 {
		checks(t, fmt.Sprint(many), upTo(many), many <= 16)
	}
	checks(t, "1000", upTo(1000), false)
}

func TestCheckOfTenants(t *testing.T) {
	for _, n := range numbers() {
		checks(t, "next to each other", table(n, n), false)
		checks(t, "first and last", table(n, n+1, n+2, n), false)
		checks(t, "behind others", table(n+1, n+2, n, n), false)
		checks(t, "different ones", table(n, n+1, n+2, n+3), true)
	}
	checks(t, "different in the highest bit", table(1, 1<<63+1, 1<<32+1, 1<<8+1), true)
	checks(t, "alike but for the tenant", []api.Quota{row(1, 5, 6), row(2, 5, 6)}, true)
	checks(t, "different but for the tenant", []api.Quota{row(1, 5, 6), row(1, 7, 8)}, false)
}

func TestCheckLetsUsedBeGreater(t *testing.T) {
	for _, used := range few() {
		for _, limit := range few() {
			checks(t, "one", []api.Quota{row(1, used, limit)}, true)
			checks(t, "two", []api.Quota{row(1, used, limit), row(2, limit, used)}, true)
		}
	}
}

// P12.3: Text

func TestTextByteByByte(t *testing.T) {
	tells(t, "nil", nil, "\x00")
	tells(t, "empty", []api.Quota{}, "\x00")
	tells(t, "one", []api.Quota{row(1, 2, 3)}, "\x01\x01\x02\x03")
	tells(t, "zeros", []api.Quota{{}}, "\x01\x00\x00\x00")
	tells(t, "two", []api.Quota{row(2, 3, 4), row(300, 128, 127)}, "\x02\x02\x03\x04\xac\x02\x80\x01\x7f")
	tells(t, "used above", []api.Quota{row(7, 9, 8)}, "\x01\x07\x09\x08")
	greatest := strings.Repeat("\xff", 9) + "\x01"
	tells(t, "the greatest", []api.Quota{row(most, most, most)}, "\x01"+greatest+greatest+greatest)
	tells(t, "a row twice", []api.Quota{row(1, 2, 3), row(1, 2, 3)}, "\x02\x01\x02\x03\x01\x02\x03")
}

func TestTextOfEachTable(t *testing.T) {
	for i, rows := range append(validTables(), invalidTables()...) {
		tells(t, fmt.Sprint(i), rows, textByHand(rows))
	}
	tells(t, "17 rows", slices.Repeat([]api.Quota{{}}, 17), "\x11"+strings.Repeat("\x00", 51))
	tells(t, "200 rows", slices.Repeat([]api.Quota{row(1, 2, 3)}, 200), "\xc8\x01"+strings.Repeat("\x01\x02\x03", 200))
}

// P12.3: Parse

func TestParseOfEachText(t *testing.T) {
	for i, rows := range validTables() {
		parses(t, fmt.Sprint(i), textByHand(rows), rows)
		parses(t, fmt.Sprint(i), Text(rows), rows)
	}
	parses(t, "one", "\x01\x01\x02\x03", []api.Quota{row(1, 2, 3)})
	parses(t, "used above", "\x01\x07\x09\x08", []api.Quota{row(7, 9, 8)})
}

func TestParseOfATextCutShort(t *testing.T) {
	for i, rows := range validTables() {
		s := textByHand(rows)
		for n := range len(s) {
			noTable(t, fmt.Sprint(i, " cut at ", n), s[:n])
		}
	}
}

func TestParseOfATextWithMore(t *testing.T) {
	for i, rows := range validTables() {
		s := textByHand(rows)
		for _, more := range []string{"\x00", "\x01", "a", "\x80", "\xff", "\x63\x01\x00", s} {
			noTable(t, fmt.Sprint(i, " and more"), s+more)
		}
		noTable(t, fmt.Sprint(i, " and one ahead"), "\x00"+s)
	}
}

func TestParseOfTextsOfTablesThatAreNotValid(t *testing.T) {
	for i, rows := range invalidTables() {
		noTable(t, fmt.Sprint(i), textByHand(rows))
	}
}

func TestParseOfNumbersThatAreTooLong(t *testing.T) {
	parses(t, "as it should be", "\x01\x01\x05\x07", []api.Quota{row(1, 5, 7)})
	for name, s := range map[string]string{
		"count of one":       "\x81\x00\x01\x05\x07",
		"count of none":      "\x80\x00",
		"tenant":             "\x01\x81\x00\x05\x07",
		"used":               "\x01\x01\x85\x00\x07",
		"limit":              "\x01\x01\x05\x87\x00",
		"tenant 0":           "\x01\x80\x00\x05\x07",
		"used 0":             "\x01\x01\x80\x00\x07",
		"limit 0":            "\x01\x01\x05\x80\x00",
		"limit 0 in three":   "\x01\x01\x05\x80\x80\x00",
		"used above":         "\x01\x01" + strings.Repeat("\xff", 9) + "\x02\x07",
		"used of 11":         "\x01\x01" + strings.Repeat("\xff", 10) + "\x01\x07",
		"tenant above":       "\x01" + strings.Repeat("\xff", 9) + "\x7f\x05\x07",
		"limit above":        "\x01\x01\x05" + strings.Repeat("\x80", 9) + "\x02",
		"count above":        strings.Repeat("\xff", 9) + "\x02",
		"second row's":       "\x02\x01\x05\x07\x82\x00\x05\x07",
		"second row's limit": "\x02\x01\x05\x07\x02\x05\x87\x00",
	} {
		noTable(t, name, s)
	}
}

func TestParseOfWrongCounts(t *testing.T) {
	noTable(t, "empty", "")
	one, two := "\x01\x05\x07", "\x02\x05\x08"
	noTable(t, "none of one", "\x00"+one)
	noTable(t, "one of two", "\x01"+one+two)
	parses(t, "two of two", "\x02"+one+two, []api.Quota{row(1, 5, 7), row(2, 5, 8)})
	noTable(t, "three of two", "\x03"+one+two)
	noTable(t, "sixteen of two", "\x10"+one+two)
	for _, n := range []uint64{3, 16, 17, 18, 127, 128, 1 << 20, 1<<31 - 1, 1 << 31, 1 << 32, 1<<32 + 2, 1<<63 - 1, 1 << 63, 1<<63 + 2, most - 1, most} {
		count := string(binary.AppendUvarint(nil, n))
		noTable(t, fmt.Sprint(n, " of none"), count)
		noTable(t, fmt.Sprint(n, " of two"), count+one+two)
	}
	noTable(t, "the count of 256 rows is 0 in 8 bits", "\x80\x02")
	noTable(t, "the count of 257 rows is 1 in 8 bits", "\x81\x02"+one)
}

// A count of too many rows gets no memory, however many rows follow.
func TestParseTakesNoMemoryForACountAlone(t *testing.T) {
	for _, many := range []uint64{17, 100, 1 << 40, most} {
		s := string(binary.AppendUvarint(nil, many)) + strings.Repeat("\x00", 3000)
		if n := testing.AllocsPerRun(10, func() { Parse(s) }); n != 0 {
			t.Errorf("%d rows: %v allocations", many, n)
		}
	}
}

// Whatever is parsed is the table of its text, and all other bytes are none.
func TestParseOfRandomBytes(t *testing.T) {
	r := rand.New(rand.NewSource(121))
	found := 0
	for range 40000 {
		b := make([]byte, r.Intn(14))
		for i := range b {
			b[i] = []byte{0, 1, 2, 3, 1, 0, 128, 255}[r.Intn(8)]
		}
		rows, ok := Parse(string(b))
		if ok && (!checkByHand(rows) || textByHand(rows) != string(b)) || !ok && len(rows) != 0 {
			t.Fatalf("%q: %s, %v", b, brief(rows), ok)
		}
		if ok {
			found++
		}
	}
	if found < 100 {
		t.Errorf("only %d tables", found)
	}
}

func TestParsedTablesAreApart(t *testing.T) {
	s := textByHand(upTo(9))
	x, _ := Parse(s)
	y, _ := Parse(s)
	apart(t, "Parse", x, y, upTo(9))
}

// P12.4

// Each call leaves the rows of other tenants, and the order of all rows.
func TestOtherTenantsStayAsTheyAre(t *testing.T) {
	r := rand.New(rand.NewSource(122))
	for range 500 {
		rows := randomTable(r, r.Intn(20), 1+r.Intn(20))
		tenant, n := uint64(r.Intn(20)), randomNumber(r)
		set, _ := Set(rows, tenant, n)
		taken, _ := Take(rows, tenant, n)
		given, _ := Give(rows, tenant, n)
		for _, x := range [][]api.Quota{set, taken, given} {
			if len(x) != 0 && !slices.Equal(others(x, tenant), others(rows, tenant)) {
				t.Errorf("%d, %d: %s, from %s", tenant, n, brief(x), brief(rows))
			}
		}
	}
}

// others are the rows of all tenants but one, with the places of its rows between them.
func others(t []api.Quota, tenant uint64) []api.Quota {
	var l []api.Quota
	for i, r := range t {
		if r.Tenant != tenant {
			l = append(l, r, row(uint64(i), 0, 0))
		}
	}
	return l
}

func TestWhatIsTakenAndGivenAgainIsAsBefore(t *testing.T) {
	for _, used := range few() {
		for _, limit := range few() {
			rows := []api.Quota{row(2, 1, 0), row(1, used, limit), row(1, 6, 7)}
			for _, n := range numbers() {
				taken, e := Take(rows, 1, n)
				if e != api.OK {
					continue
				}
				gives(t, taken, 1, n, rows)
			}
		}
	}
}

// Two parts are as one take of their sum, where that is a number.
func TestWhatIsTakenInTwoPartsIsAsAtOnce(t *testing.T) {
	for _, used := range few() {
		for _, limit := range few() {
			rows := []api.Quota{row(2, 1, 0), row(1, used, limit)}
			for _, m := range few() {
				for _, n := range few() {
					if m+n < m {
						continue
					}
					once, e := Take(rows, 1, m+n)
					parts, f := Take(rows, 1, m)
					if f == api.OK {
						parts, f = Take(parts, 1, n)
					}
					if !slices.Equal(once, parts) || e != f {
						t.Errorf("%d and %d of %s: %s, %d; at once %s, %d", m, n, brief(rows), brief(parts), f, brief(once), e)
					}
				}
			}
		}
	}
}

// Random calls from a valid table: each answer is what the document's words say, no Take passes a limit, the table stays valid.
func TestAValidTableStaysValid(t *testing.T) {
	r := rand.New(rand.NewSource(123))
	for range 100 {
		rows, tenants := []api.Quota(nil), 1+r.Intn(22)
		for range 80 {
			tenant, n := uint64(r.Intn(tenants)), randomNumber(r)
			asByHand(t, rows, tenant, n)
			next := randomCall(t, r, rows, tenant, n)
			checks(t, "next", next, true)
			parses(t, "next", Text(next), next)
			if len(next) != 0 {
				rows = next
			}
		}
	}
}

// randomCall makes one of the calls, and asks of a Take that Used is not above Limit behind it.
func randomCall(t *testing.T, r *rand.Rand, rows []api.Quota, tenant, n uint64) []api.Quota {
	var next []api.Quota
	switch r.Intn(3) {
	case 0:
		next, _ = Set(rows, tenant, n)
	case 1:
		next, _ = Give(rows, tenant, n)
	default:
		var e api.Errno
		next, e = Take(rows, tenant, n)
		if at := firstByHand(next, tenant); e == api.OK && next[at].Used > next[at].Limit {
			t.Errorf("Take(%d, %d) of %s: %s", tenant, n, brief(rows), brief(next))
		}
	}
	return next
}

// randomNumber is small, or at an edge.
func randomNumber(r *rand.Rand) uint64 {
	switch r.Intn(6) {
	case 0:
		return most - uint64(r.Intn(4))
	case 1:
		return 1<<63 + uint64(r.Intn(3)) - 1
	default:
		return uint64(r.Intn(12))
	}
}

// randomTable may be not valid.
func randomTable(r *rand.Rand, many, tenants int) []api.Quota {
	var l []api.Quota
	for range many {
		l = append(l, row(uint64(r.Intn(tenants)), randomNumber(r), randomNumber(r)))
	}
	return l
}

// On any table, valid or not, each call says what the document's words say.
func TestRandomCalls(t *testing.T) {
	r := rand.New(rand.NewSource(124))
	for range 4000 {
		rows := randomTable(r, r.Intn(22), 1+r.Intn(40))
		asByHand(t, rows, uint64(r.Intn(20)), randomNumber(r))
		checks(t, "random", rows, checkByHand(rows))
		tells(t, "random", rows, textByHand(rows))
		if checkByHand(rows) {
			parses(t, "random", textByHand(rows), rows)
		} else {
			noTable(t, "random", textByHand(rows))
		}
	}
}

// R1 to R5

func TestAnyArguments(t *testing.T) {
	many := slices.Repeat([]api.Quota{row(1, 2, 3), row(most, most, most), {}}, 20000)
	for _, rows := range [][]api.Quota{nil, {}, {{}}, many} {
		for _, n := range []uint64{0, 1, 2, most} {
			asByHand(t, rows, n, n)
		}
		checks(t, "any", rows, checkByHand(rows))
		tells(t, "any", rows, textByHand(rows))
	}
	long := strings.Repeat("\xff", 1<<20)
	for _, s := range []string{"", long, "\x00" + long, "\x10" + long, "\x01" + long, strings.Repeat("\x00", 1<<20), strings.Repeat("\x10", 1<<20)} {
		noTable(t, "any bytes", s)
	}
}

// Each call is the same when it is asked again: nothing is kept.
func TestNothingIsKept(t *testing.T) {
	for _, rows := range append(validTables(), invalidTables()...) {
		for range 2 {
			asByHand(t, rows, 1, 5)
			asByHand(t, rows, 17, 0)
			checks(t, "again", rows, checkByHand(rows))
			tells(t, "again", rows, textByHand(rows))
			if x, ok := Parse(Text(rows)); ok != checkByHand(rows) || ok && !slices.Equal(x, rows) {
				t.Errorf("%s: %s, %v", brief(rows), brief(x), ok)
			}
		}
	}
}

func TestNilAndEmptyAreAlike(t *testing.T) {
	for _, rows := range [][]api.Quota{nil, {}, make([]api.Quota, 0, 5)} {
		sets(t, rows, 0, 0, []api.Quota{{}})
		noTenant(t, rows, 0, 0)
		checks(t, "empty", rows, true)
		tells(t, "empty", rows, "\x00")
		if x, ok := Set(rows, 1, 2); !ok || !slices.Equal(x, []api.Quota{row(1, 0, 2)}) {
			t.Errorf("%s, %v", brief(x), ok)
		}
	}
	parses(t, "empty", "\x00", nil)
}

func TestExample(t *testing.T) {
	rows := sets(t, nil, 1, 3, []api.Quota{row(1, 0, 3)})
	rows = takes(t, rows, 1, 2, []api.Quota{row(1, 2, 3)})
	over(t, rows, 1, 2)
	gives(t, rows, 1, 5, []api.Quota{row(1, 0, 3)})
	noTenant(t, nil, 1, 0)
}
