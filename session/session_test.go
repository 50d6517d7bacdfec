package session

import (
	"countersign/api"
	"encoding/binary"
	"fmt"
	"math"
	"math/rand"
	"slices"
	"strings"
	"testing"
)

const most = uint64(math.MaxUint64)

// row is a row as it is written in a list.
func row(id, number uint64, answer string) api.Session {
	return api.Session{Id: id, Number: number, Answer: answer}
}

// table is rows of these ids, each with a number and an answer that tell its place.
func table(ids ...uint64) []api.Session {
	var t []api.Session
	for i, id := range ids {
		t = append(t, row(id, uint64(i)+100, fmt.Sprint("at ", i)))
	}
	return t
}

// upTo is a table of so many rows, whose ids are 1, 2, ..
func upTo(many int) []api.Session {
	var ids []uint64
	for i := range many {
		ids = append(ids, uint64(i)+1)
	}
	return table(ids...)
}

// seekByHand goes through all rows from the end, so that the first one has the last word.
func seekByHand(t []api.Session, id, number uint64) (int, string) {
	kind, answer := api.SeekNew, ""
	for i := len(t) - 1; i >= 0; i-- {
		if t[i].Id != id {
			continue
		}
		switch {
		case t[i].Number == number:
			kind, answer = api.SeekAgain, t[i].Answer
		case t[i].Number > number:
			kind, answer = api.SeekOld, ""
		default:
			kind, answer = api.SeekNew, ""
		}
	}
	return kind, answer
}

func noteByHand(t []api.Session, id, number uint64, answer string) []api.Session {
	var l []api.Session
	for i := range t {
		if t[i].Id != id {
			l = append(l, t[i])
		}
	}
	var kept []byte
	for i := 0; i < 256 && i < len(answer); i++ {
		kept = append(kept, answer[i])
	}
	l = append(l, row(id, number, string(kept)))
	for len(l) > 16 {
		l = l[1:]
	}
	return l
}

func checkByHand(t []api.Session) bool {
	ids := map[uint64]int{}
	for _, r := range t {
		ids[r.Id]++
		if len(r.Answer) >= 257 || ids[r.Id] == 2 {
			return false
		}
	}
	return len(t) < 17
}

// textByHand is the document's words, with the library's encoding of a number in wire's place.
func textByHand(t []api.Session) string {
	s := binary.AppendUvarint(nil, uint64(len(t)))
	for _, r := range t {
		s = binary.AppendUvarint(s, r.Id)
		s = binary.AppendUvarint(s, r.Number)
		s = binary.AppendUvarint(s, uint64(len(r.Answer)))
		s = append(s, r.Answer...)
	}
	return string(s)
}

// brief tells a table without long answers.
func brief(t []api.Session) string {
	var l []string
	for _, r := range t {
		l = append(l, fmt.Sprintf("%d/%d/%.20q(%d)", r.Id, r.Number, r.Answer, len(r.Answer)))
	}
	return fmt.Sprint(l)
}

// spare lays a table into memory that goes on behind it, with rows that no call may touch, and returns all of it.
func spare(t []api.Session) ([]api.Session, []api.Session) {
	whole := append(slices.Clone(t), row(77, 7, "behind"), row(78, 8, "behind it"), row(79, 9, "last"))
	return whole[:len(t)], whole
}

// unchanged runs a call on a table with rows behind it, and asks that the call changes none of them.
func unchanged(t *testing.T, name string, rows []api.Session, call func([]api.Session)) {
	given, whole := spare(rows)
	before := slices.Clone(whole)
	call(given)
	if !slices.Equal(whole, before) {
		t.Helper()
		t.Errorf("%s changed its table:\n%s, was\n%s", name, brief(whole), brief(before))
	}
}

func seeks(t *testing.T, rows []api.Session, id, number uint64, kind int, answer string) {
	unchanged(t, "Seek", rows, func(x []api.Session) {
		if k, s := Seek(x, id, number); k != kind || s != answer {
			t.Helper()
			t.Errorf("Seek(%d, %d): %d, %q; want %d, %q; in %s", id, number, k, s, kind, answer, brief(rows))
		}
	})
}

// notes asks Note for a table, and that what it returns shares nothing with what it was given.
func notes(t *testing.T, rows []api.Session, id, number uint64, answer string, want []api.Session) []api.Session {
	var got []api.Session
	unchanged(t, "Note", rows, func(x []api.Session) {
		got = Note(x, id, number, answer)
		if !slices.Equal(got, want) {
			t.Helper()
			t.Errorf("Note(%d, %d, %d bytes) of %s:\n%s, want\n%s", id, number, len(answer), brief(rows), brief(got), brief(want))
		}
		spoils(got)
		got = Note(x, id, number, answer)
	})
	return got
}

// spoils overwrites all of a table, also what its memory has behind it.
func spoils(t []api.Session) {
	t = t[:cap(t)]
	for i := range t {
		t[i] = row(666, 666, "spoilt")
	}
}

func checks(t *testing.T, name string, rows []api.Session, want bool) {
	unchanged(t, "Check", rows, func(x []api.Session) {
		if got := Check(x); got != want {
			t.Helper()
			t.Errorf("%s: Check %v, want %v: %s", name, got, want, brief(rows))
		}
	})
}

func tells(t *testing.T, name string, rows []api.Session, want string) {
	unchanged(t, "Text", rows, func(x []api.Session) {
		if got := Text(x); got != want {
			t.Helper()
			t.Errorf("%s: %.200q, want %.200q", name, got, want)
		}
	})
}

func parses(t *testing.T, name, s string, want []api.Session) {
	if got, ok := Parse(s); !slices.Equal(got, want) || !ok {
		t.Helper()
		t.Errorf("%s: %s, %v; want %s, true", name, brief(got), ok, brief(want))
	}
}

func noTable(t *testing.T, name, s string) {
	if got, ok := Parse(s); len(got) != 0 || ok {
		t.Helper()
		t.Errorf("%s: %s, %v; want no table, false: %.100q", name, brief(got), ok, s)
	}
}

// answers are texts at the edges of what is kept, and bytes that are no text.
func answers() []string {
	return []string{
		"", "a", "ok", "\x00", "\x00\x00", "\xff\xfe\x80", "é", strings.Repeat("x", 127), strings.Repeat("x", 128),
		strings.Repeat("y", 255), strings.Repeat("\x00", 256), "z" + strings.Repeat("\xff", 255),
	}
}

// tooLong are texts of which Note keeps a part.
func tooLong() []string {
	return []string{
		strings.Repeat("a", 256) + "b", strings.Repeat("é", 129), strings.Repeat("\xff", 257), strings.Repeat("ab", 1000),
		"a" + strings.Repeat("é", 128), strings.Repeat("\x00", 70000),
	}
}

// numbers are ordinary ones, and those at the edges of their encodings.
func numbers() []uint64 {
	l := []uint64{0, 1, 2, 5, 300, most - 1, most}
	for bits := 7; bits < 64; bits += 7 {
		l = append(l, 1<<bits-1, 1<<bits)
	}
	return l
}

// validTables are such at each edge of what is valid.
func validTables() [][]api.Session {
	l := [][]api.Session{nil, {}, {row(0, 0, "")}, {row(most, most, strings.Repeat("m", 256))}}
	for many := range 17 {
		l = append(l, upTo(many))
	}
	for _, a := range answers() {
		l = append(l, []api.Session{row(1, 2, a)}, []api.Session{row(1, 2, "b"), row(2, 2, a)}, []api.Session{row(3, 1, a), row(1, 2, a), row(2, 3, "")})
	}
	for _, n := range numbers() {
		l = append(l, []api.Session{row(n, 1, "a")}, []api.Session{row(1, n, "a")}, []api.Session{row(n, n, ""), row(n+1, n, "")})
	}
	full := upTo(16)
	for i := range full {
		full[i] = row(most-uint64(i), most-uint64(i), strings.Repeat(string(rune('a'+i)), 256))
	}
	return append(l, full)
}

// invalidTables are such in one of the three ways, just beyond the edge, and in more than one.
func invalidTables() [][]api.Session {
	l := [][]api.Session{upTo(17), upTo(18), upTo(100), table(1, 1), table(0, 0), table(1, 1, 2), table(1, 2, 1), table(1, 2, 2), table(3, 1, 2, 3)}
	for i := range 16 {
		t := upTo(16)
		t[i].Answer = strings.Repeat("a", 257)
		l = append(l, t)
		for j := range i {
			t := upTo(16)
			t[i].Id = t[j].Id
			l = append(l, t)
		}
	}
	for _, a := range tooLong() {
		l = append(l, []api.Session{row(1, 1, a)}, []api.Session{row(1, 1, ""), row(2, 1, a)}, []api.Session{row(1, 1, a), row(1, 1, "")})
	}
	same := row(5, 5, "five")
	l = append(l, []api.Session{same, same}, slices.Repeat([]api.Session{same}, 17))
	return l
}

// P11.1

func TestSeekOfNoRow(t *testing.T) {
	for _, rows := range [][]api.Session{nil, {}, table(2), table(2, 3), upTo(16)} {
		for _, number := range []uint64{0, 1, 99, 100, 101, most} {
			seeks(t, rows, 0, number, api.SeekNew, "")
			seeks(t, rows, 17, number, api.SeekNew, "")
			seeks(t, rows, most, number, api.SeekNew, "")
		}
	}
}

func TestSeekOfEachRow(t *testing.T) {
	for _, many := range []int{1, 2, 3, 15, 16, 17, 18, 40, 300} {
		rows := upTo(many)
		for i, r := range rows {
			seeks(t, rows, r.Id, r.Number, api.SeekAgain, fmt.Sprint("at ", i))
			seeks(t, rows, r.Id, r.Number-1, api.SeekOld, "")
			seeks(t, rows, r.Id, r.Number+1, api.SeekNew, "")
			seeks(t, rows, r.Id, 0, api.SeekOld, "")
			seeks(t, rows, r.Id, most, api.SeekNew, "")
		}
	}
}

func TestSeekAtTheEdgesOfNumbers(t *testing.T) {
	for at := range 3 {
		for _, n := range numbers() {
			for _, id := range []uint64{0, 1, 1 << 63, most} {
				rows := []api.Session{row(11, 0, "o"), row(12, most, "p"), row(13, 5, "q")}
				rows[at] = row(id, n, "it")
				seeks(t, rows, id, n, api.SeekAgain, "it")
				for _, m := range numbers() {
					if m < n {
						seeks(t, rows, id, m, api.SeekOld, "")
					}
					if m > n {
						seeks(t, rows, id, m, api.SeekNew, "")
					}
				}
			}
		}
	}
}

func TestSeekTellsTheAnswerAsItIs(t *testing.T) {
	for _, a := range append(answers(), tooLong()...) {
		rows := []api.Session{row(1, 1, "other"), row(2, 5, a), row(3, 5, "another")}
		seeks(t, rows, 2, 5, api.SeekAgain, a)
		seeks(t, rows, 2, 4, api.SeekOld, "")
		seeks(t, rows, 2, 6, api.SeekNew, "")
	}
}

func TestSeekTakesTheFirstRowOfAnId(t *testing.T) {
	first, second := row(4, 10, "first"), row(4, 20, "second")
	for _, rows := range [][]api.Session{
		{first, second}, {first, row(5, 1, ""), second}, {row(5, 1, ""), first, second}, {row(5, 10, "x"), first, row(6, 1, ""), second, first},
		append(append(upTo(3), first), append(slices.Repeat([]api.Session{row(9, 9, "")}, 20), second)...),
	} {
		seeks(t, rows, 4, 10, api.SeekAgain, "first")
		seeks(t, rows, 4, 20, api.SeekNew, "")
		seeks(t, rows, 4, 15, api.SeekNew, "")
		seeks(t, rows, 4, 9, api.SeekOld, "")
	}
	for _, rows := range [][]api.Session{{second, first}, {second, second, first}, {row(10, 1, ""), second, row(20, 1, ""), first}} {
		seeks(t, rows, 4, 20, api.SeekAgain, "second")
		seeks(t, rows, 4, 10, api.SeekOld, "")
		seeks(t, rows, 4, 15, api.SeekOld, "")
		seeks(t, rows, 4, 21, api.SeekNew, "")
	}
	alike := []api.Session{row(4, 10, "one"), row(4, 10, "two")}
	seeks(t, alike, 4, 10, api.SeekAgain, "one")
}

// P11.2

func TestNoteOnAnEmptyTable(t *testing.T) {
	for _, id := range numbers() {
		notes(t, nil, id, 5, "a", []api.Session{row(id, 5, "a")})
		notes(t, []api.Session{}, id, most, "", []api.Session{row(id, most, "")})
	}
	for _, n := range numbers() {
		notes(t, nil, 1, n, "a", []api.Session{row(1, n, "a")})
	}
}

func TestNoteOfANewId(t *testing.T) {
	for _, many := range []int{1, 2, 3, 14, 15} {
		rows := upTo(many)
		notes(t, rows, 99, 3, "new", append(upTo(many), row(99, 3, "new")))
		notes(t, rows, 0, 0, "", append(upTo(many), row(0, 0, "")))
	}
	for _, many := range []int{16, 17, 18, 31, 32, 33, 100, 1000} {
		rows := upTo(many)
		notes(t, rows, 9999, 3, "new", append(upTo(many)[many-15:], row(9999, 3, "new")))
	}
}

func TestNoteOfAnIdThatStands(t *testing.T) {
	rows := table(1, 2, 3, 4)
	x := row(0, 7, "again")
	x.Id = 1
	notes(t, rows, 1, 7, "again", []api.Session{rows[1], rows[2], rows[3], x})
	x.Id = 2
	notes(t, rows, 2, 7, "again", []api.Session{rows[0], rows[2], rows[3], x})
	x.Id = 3
	notes(t, rows, 3, 7, "again", []api.Session{rows[0], rows[1], rows[3], x})
	x.Id = 4
	notes(t, rows, 4, 7, "again", []api.Session{rows[0], rows[1], rows[2], x})
	notes(t, table(5), 5, 7, "", []api.Session{row(5, 7, "")})
}

// An older number, the same one and a newer one are noted alike.
func TestNoteOfAnyNumber(t *testing.T) {
	for _, n := range []uint64{0, 99, 100, 101, most} {
		notes(t, table(1, 2), 1, n, "b", []api.Session{row(2, 101, "at 1"), row(1, n, "b")})
	}
}

func TestNoteLeavesOutAllRowsOfTheId(t *testing.T) {
	for _, ids := range [][]uint64{
		{1, 1}, {1, 1, 1}, {1, 2, 1}, {2, 1, 1}, {1, 1, 2}, {1, 2, 1, 3, 1}, {2, 1, 3, 1, 4}, {1, 2, 2, 1, 2, 3, 3, 1},
	} {
		rows := table(ids...)
		var want []api.Session
		for _, r := range rows {
			if r.Id != 1 {
				want = append(want, r)
			}
		}
		notes(t, rows, 1, 8, "it", append(want, row(1, 8, "it")))
	}
	notes(t, slices.Repeat(table(1), 100), 1, 8, "it", []api.Session{row(1, 8, "it")})
}

// Rows of other ids that stand twice stay twice.
func TestNoteKeepsOtherRowsInOrder(t *testing.T) {
	rows := table(3, 2, 3, 1, 2, 9)
	notes(t, rows, 1, 8, "it", append(slices.Delete(slices.Clone(rows), 3, 4), row(1, 8, "it")))
	notes(t, rows, 4, 8, "it", append(slices.Clone(rows), row(4, 8, "it")))
}

func TestNoteLeavesTheLastSixteen(t *testing.T) {
	for others := 13; others < 40; others++ {
		for _, at := range []int{-1, 0, 1, others / 2, others - 1, others} {
			rows := upTo(others)
			if at >= 0 {
				rows = slices.Insert(rows, at, row(500, 1, "before"))
			}
			want := append(upTo(others), row(500, 2, "now"))
			want = want[max(0, len(want)-16):]
			notes(t, rows, 500, 2, "now", want)
		}
	}
}

func TestNoteCutsTheAnswer(t *testing.T) {
	for _, rows := range [][]api.Session{nil, table(1), table(5), table(1, 5, 2), upTo(16)} {
		for _, a := range answers() {
			got := notes(t, rows, 5, 1, a, noteByHand(rows, 5, 1, a))
			if s := got[len(got)-1].Answer; s != a {
				t.Errorf("%d bytes: kept %d", len(a), len(s))
			}
		}
		for _, a := range tooLong() {
			got := notes(t, rows, 5, 1, a, noteByHand(rows, 5, 1, a))
			if s := got[len(got)-1].Answer; s != a[:256] {
				t.Errorf("%d bytes: kept %d", len(a), len(s))
			}
		}
	}
	for n := 250; n < 270; n++ {
		a := strings.Repeat("q", n)
		notes(t, nil, 1, 1, a, []api.Session{row(1, 1, strings.Repeat("q", min(n, 256)))})
	}
}

func TestNoteLeavesOtherAnswersAsTheyAre(t *testing.T) {
	for _, a := range tooLong() {
		rows := []api.Session{row(1, 1, a), row(2, 2, ""), row(3, 3, a)}
		notes(t, rows, 4, 4, "d", append(slices.Clone(rows), row(4, 4, "d")))
		notes(t, rows, 2, 4, "d", []api.Session{rows[0], rows[2], row(2, 4, "d")})
		notes(t, rows, 1, 4, a, []api.Session{rows[1], rows[2], row(1, 4, a[:256])})
	}
}

// Tables that were noted one from another stay apart.
func TestNotesOfOneTableAreApart(t *testing.T) {
	for _, many := range []int{0, 1, 5, 14, 15, 16, 17} {
		rows := Note(upTo(many), 50, 1, "a")
		x := Note(rows, 60, 1, "x")
		y := Note(rows, 61, 1, "y")
		z := Note(x, 62, 1, "z")
		spoils(z)
		spoils(y)
		if want := noteByHand(noteByHand(upTo(many), 50, 1, "a"), 60, 1, "x"); !slices.Equal(x, want) {
			t.Errorf("%d rows: %s, want %s", many, brief(x), brief(want))
		}
		spoils(x)
		if want := noteByHand(upTo(many), 50, 1, "a"); !slices.Equal(rows, want) {
			t.Errorf("%d rows: %s, want %s", many, brief(rows), brief(want))
		}
	}
}

// P11.3: Check

func TestCheckOfValidTables(t *testing.T) {
	for i, rows := range validTables() {
		checks(t, fmt.Sprint(i), rows, true)
	}
}

func TestCheckOfTablesThatAreNotValid(t *testing.T) {
	for i, rows := range invalidTables() {
		checks(t, fmt.Sprint(i), rows, false)
	}
}

func TestCheckOfMany(t *testing.T) {
	for many := range 40 {
		checks(t, fmt.Sprint(many), upTo(many), many <= 16)
	}
}

func TestCheckOfAnIdTwice(t *testing.T) {
	checks(t, "next to each other", table(1, 1), false)
	checks(t, "next to each other in the midst", table(1, 2, 2, 3), false)
	checks(t, "first and last", table(1, 2, 3, 1), false)
	checks(t, "first and last of 16", append(upTo(15), row(1, 1, "")), false)
	checks(t, "each one twice", table(1, 2, 1, 2), false)
	checks(t, "0 and the greatest", table(0, most), true)
	checks(t, "numbers alike", []api.Session{row(1, 7, "a"), row(2, 7, "a")}, true)
	checks(t, "one's id is another's number", []api.Session{row(1, 2, ""), row(2, 1, "")}, true)
}

func TestCheckOfAnswers(t *testing.T) {
	for at := range 3 {
		for n := 253; n < 260; n++ {
			rows := table(1, 2, 3)
			rows[at].Answer = strings.Repeat("\xff", n)
			checks(t, fmt.Sprint(n, " bytes in row ", at), rows, n <= 256)
		}
	}
	checks(t, "256 bytes of 128 runes", []api.Session{row(1, 1, strings.Repeat("é", 128))}, true)
	checks(t, "258 bytes of 129 runes", []api.Session{row(1, 1, strings.Repeat("é", 129))}, false)
}

// P11.3: Text

func TestTextByteByByte(t *testing.T) {
	tells(t, "nil", nil, "\x00")
	tells(t, "empty", []api.Session{}, "\x00")
	tells(t, "one", []api.Session{row(1, 5, "a")}, "\x01\x01\x05\x01a")
	tells(t, "zeros", []api.Session{{}}, "\x01\x00\x00\x00")
	tells(t, "two", []api.Session{row(2, 3, "bc"), row(300, 128, "")}, "\x02\x02\x03\x02bc\xac\x02\x80\x01\x00")
	greatest := strings.Repeat("\xff", 9) + "\x01"
	tells(t, "the greatest", []api.Session{row(most, most, "\xff\x00")}, "\x01"+greatest+greatest+"\x02\xff\x00")
	tells(t, "an answer of 256 bytes", []api.Session{row(1, 2, strings.Repeat("z", 256))}, "\x01\x01\x02\x80\x02"+strings.Repeat("z", 256))
}

func TestTextOfEachTable(t *testing.T) {
	for i, rows := range append(validTables(), invalidTables()...) {
		tells(t, fmt.Sprint(i), rows, textByHand(rows))
	}
	tells(t, "17 rows", slices.Repeat([]api.Session{{}}, 17), "\x11"+strings.Repeat("\x00", 51))
	tells(t, "200 rows", slices.Repeat([]api.Session{row(1, 2, "c")}, 200), "\xc8\x01"+strings.Repeat("\x01\x02\x01c", 200))
	tells(t, "an answer of 257 bytes", []api.Session{row(1, 2, strings.Repeat("z", 257))}, "\x01\x01\x02\x81\x02"+strings.Repeat("z", 257))
}

// P11.3: Parse

func TestParseOfEachText(t *testing.T) {
	for i, rows := range validTables() {
		parses(t, fmt.Sprint(i), textByHand(rows), rows)
		parses(t, fmt.Sprint(i), Text(rows), rows)
	}
}

func TestParseOfATextCutShort(t *testing.T) {
	for i, rows := range validTables() {
		s := textByHand(rows)
		for n := range len(s) {
			noTable(t, fmt.Sprint(i, " cut at ", n), s[:n])
		}
	}
}

func TestParseOfATextWithMore(t *testing.T) {
	for i, rows := range validTables() {
		s := textByHand(rows)
		for _, more := range []string{"\x00", "a", "\xff", "\x01\x01\x00", s} {
			noTable(t, fmt.Sprint(i, " and more"), s+more)
		}
		noTable(t, fmt.Sprint(i, " and one ahead"), "\x00"+s)
	}
}

func TestParseOfTextsOfTablesThatAreNotValid(t *testing.T) {
	for i, rows := range invalidTables() {
		noTable(t, fmt.Sprint(i), textByHand(rows))
	}
}

func TestParseOfNumbersThatAreTooLong(t *testing.T) {
	parses(t, "as it should be", "\x01\x01\x05\x01a", []api.Session{row(1, 5, "a")})
	for name, s := range map[string]string{
		"count of one":    "\x81\x00\x01\x05\x01a",
		"count of none":   "\x80\x00",
		"id":              "\x01\x81\x00\x05\x01a",
		"number":          "\x01\x01\x85\x00\x01a",
		"length":          "\x01\x01\x05\x81\x00a",
		"length of none":  "\x01\x01\x05\x80\x00",
		"id 0":            "\x01\x80\x00\x05\x01a",
		"number above":    "\x01\x01" + strings.Repeat("\xff", 9) + "\x02\x01a",
		"number of 11":    "\x01\x01" + strings.Repeat("\xff", 10) + "\x01\x01a",
		"id above":        "\x01" + strings.Repeat("\xff", 9) + "\x7f\x05\x01a",
		"count above":     strings.Repeat("\xff", 9) + "\x02",
		"second row's id": "\x02\x01\x05\x01a\x82\x00\x05\x01a",
	} {
		noTable(t, name, s)
	}
}

func TestParseOfWrongCounts(t *testing.T) {
	noTable(t, "empty", "")
	one, two := "\x01\x05\x01a", "\x02\x05\x01b"
	noTable(t, "none of one", "\x00"+one)
	noTable(t, "one of two", "\x01"+one+two)
	parses(t, "two of two", "\x02"+one+two, []api.Session{row(1, 5, "a"), row(2, 5, "b")})
	noTable(t, "three of two", "\x03"+one+two)
	noTable(t, "sixteen of two", "\x10"+one+two)
	for _, n := range []uint64{17, 18, 127, 128, 1 << 20, 1<<31 - 1, 1 << 31, 1 << 32, 1<<63 - 1, 1 << 63, most - 1, most} {
		count := string(binary.AppendUvarint(nil, n))
		noTable(t, fmt.Sprint(n, " of none"), count)
		noTable(t, fmt.Sprint(n, " of two"), count+one+two)
		noTable(t, fmt.Sprint(n, " as the length of an answer"), "\x01\x01\x05"+count+"a")
	}
	noTable(t, "the count of 16 rows is 0 in 8 bits", "\x80\x02"+one)
}

// A count that is far greater than the rows that follow gets no memory.
func TestParseTakesNoMemoryForACountAlone(t *testing.T) {
	s := string(binary.AppendUvarint(nil, 1<<40)) + strings.Repeat("\x00", 300)
	if n := testing.AllocsPerRun(10, func() { Parse(s) }); n > 20 {
		t.Errorf("%v allocations", n)
	}
}

// Whatever is parsed is the table of its text, and all other bytes are none.
func TestParseOfRandomBytes(t *testing.T) {
	r := rand.New(rand.NewSource(111))
	found := 0
	for range 40000 {
		b := make([]byte, r.Intn(14))
		for i := range b {
			b[i] = []byte{0, 1, 2, 3, 1, 0, 128, 255}[r.Intn(8)]
		}
		rows, ok := Parse(string(b))
		if ok && (!checkByHand(rows) || textByHand(rows) != string(b)) || !ok && len(rows) != 0 {
			t.Fatalf("%q: %s, %v", b, brief(rows), ok)
		}
		if ok {
			found++
		}
	}
	if found < 100 {
		t.Errorf("only %d tables", found)
	}
}

func TestParsedTablesAreApart(t *testing.T) {
	s := textByHand(upTo(9))
	x, _ := Parse(s)
	y, _ := Parse(s)
	spoils(x)
	if !slices.Equal(y, upTo(9)) {
		t.Errorf("%s", brief(y))
	}
}

// P11.4

// noteOthers notes so many different ids that are not 1, at most 70, beginning with 0.
func noteOthers(rows []api.Session, many int) []api.Session {
	for i := range many {
		rows = Note(rows, uint64(i*37%101), uint64(i%5), fmt.Sprint("other ", i))
	}
	return rows
}

// says asks what a table says of id 1, whose command 5 was noted with an answer.
func says(t *testing.T, rows []api.Session, answer string) {
	t.Helper()
	seeks(t, rows, 1, 5, api.SeekAgain, answer)
	for _, n := range []uint64{0, 1, 4} {
		seeks(t, rows, 1, n, api.SeekOld, "")
	}
	for _, n := range []uint64{6, 7, most} {
		seeks(t, rows, 1, n, api.SeekNew, "")
	}
}

func saysNothing(t *testing.T, rows []api.Session) {
	t.Helper()
	for _, n := range []uint64{0, 4, 5, 6, most} {
		seeks(t, rows, 1, n, api.SeekNew, "")
	}
}

func TestANotedCommandIsFoundUntilSixteenOthersWereNoted(t *testing.T) {
	for _, start := range [][]api.Session{nil, table(1), table(7, 1, 8), upTo(15), upTo(16), upTo(40)} {
		for others := range 40 {
			rows := noteOthers(Note(start, 1, 5, "a"), others)
			if others < 16 {
				says(t, rows, "a")
			} else {
				saysNothing(t, rows)
			}
			if !Check(rows) && checkByHand(start) {
				t.Errorf("%d others: not valid: %s", others, brief(rows))
			}
		}
	}
}

// Only different ids count: the same few may be noted as often as they like.
func TestNotesOfTheSameIdsCountOnce(t *testing.T) {
	rows := Note(nil, 1, 5, "a")
	for i := range 300 {
		rows = Note(rows, uint64(i%15)+2, uint64(i), "b")
		says(t, rows, "a")
	}
	if len(rows) != 16 {
		t.Errorf("%d rows", len(rows))
	}
	rows = Note(rows, 17, 0, "")
	saysNothing(t, rows)
}

func TestANotedCommandIsAtTheEndAgain(t *testing.T) {
	rows := Note(nil, 1, 4, "before")
	rows = noteOthers(rows, 15)
	rows = Note(rows, 1, 5, "a")
	says(t, rows, "a")
	for i := range 15 {
		rows = Note(rows, uint64(i)+1000, 1, "")
		says(t, rows, "a")
	}
	saysNothing(t, Note(rows, 999, 1, ""))
}

func TestAnAnswerThatIsFoundIsCut(t *testing.T) {
	for _, a := range tooLong() {
		says(t, noteOthers(Note(nil, 1, 5, a), 15), a[:256])
	}
	for _, a := range answers() {
		says(t, noteOthers(Note(nil, 1, 5, a), 15), a)
	}
}

// Random notes: each answer is what the document's words say, and what was noted is found by what was noted since.
func TestRandomCalls(t *testing.T) {
	r := rand.New(rand.NewSource(112))
	for range 150 {
		ids := 1 + r.Intn(40)
		rows := []api.Session{}
		if r.Intn(3) == 0 {
			rows = table(randomIds(r, r.Intn(30), ids)...)
		}
		for range 60 {
			id, number := uint64(r.Intn(ids)), uint64(r.Intn(4))+98
			kind, answer := seekByHand(rows, id, number)
			seeks(t, rows, id, number, kind, answer)
			checks(t, "random", rows, checkByHand(rows))
			tells(t, "random", rows, textByHand(rows))
			if checkByHand(rows) {
				parses(t, "random", textByHand(rows), rows)
			} else {
				noTable(t, "random", textByHand(rows))
			}
			a := strings.Repeat("r", []int{0, 1, 20, 255, 256, 257, 300}[r.Intn(7)])
			rows = notes(t, rows, id, number, a, noteByHand(rows, id, number, a))
		}
	}
}

func randomIds(r *rand.Rand, many, below int) []uint64 {
	l := make([]uint64, many)
	for i := range l {
		l[i] = uint64(r.Intn(below))
	}
	return l
}

// R1 to R5

func TestAnyArguments(t *testing.T) {
	long := strings.Repeat("\xff", 1<<20)
	many := slices.Repeat([]api.Session{row(1, 2, "a"), row(most, most, long), {}}, 20000)
	for _, rows := range [][]api.Session{nil, {}, {{}}, many} {
		for _, id := range []uint64{0, 1, 2, most} {
			Seek(rows, id, id)
			notes(t, rows, id, id, long, noteByHand(rows, id, id, long))
		}
		Check(rows)
	}
	tells(t, "many", many[:60], textByHand(many[:60]))
	for _, s := range []string{"", long, "\x00" + long, "\x10" + long, "\x01" + long, strings.Repeat("\x00", 1<<20), strings.Repeat("\x10", 1<<20)} {
		noTable(t, "any bytes", s)
	}
}

// Each call is the same when it is asked again: nothing is kept.
func TestNothingIsKept(t *testing.T) {
	for _, rows := range append(validTables(), invalidTables()...) {
		x := Note(rows, 1, 5, "a")
		Note(x, 2, 5, "b")
		Parse(Text(x))
		Seek(x, 1, 5)
		if y := Note(rows, 1, 5, "a"); !slices.Equal(x, y) {
			t.Errorf("%s, then %s", brief(x), brief(y))
		}
	}
}

func TestNilAndEmptyAreAlike(t *testing.T) {
	for _, rows := range [][]api.Session{nil, {}, make([]api.Session, 0, 5)} {
		seeks(t, rows, 0, 0, api.SeekNew, "")
		notes(t, rows, 0, 0, "", []api.Session{{}})
		checks(t, "empty", rows, true)
		tells(t, "empty", rows, "\x00")
	}
	parses(t, "empty", "\x00", nil)
}

func TestExample(t *testing.T) {
	seeks(t, nil, 1, 5, api.SeekNew, "")
	rows := Note(nil, 1, 5, "a")
	seeks(t, rows, 1, 5, api.SeekAgain, "a")
	seeks(t, rows, 1, 4, api.SeekOld, "")
	seeks(t, rows, 1, 6, api.SeekNew, "")
	seeks(t, rows, 2, 5, api.SeekNew, "")
}
