package above_test

import (
	"fmt"
	"math/rand/v2"
	"testing"

	"rolodex/above"
	"rolodex/api"
	"rolodex/book"
)

func checkAdd(t *testing.T, why string, b api.Book, part api.Rec, want api.Book) {
	t.Helper()
	if got, err := above.Add(b, part); err != api.OK || spelt(got.R) != spelt(want.R) {
		t.Errorf("%s: Add(%s, %s) = %s, %d; want %s", why, told(b), told(part), told(got), err, told(want))
	}
}

func checkNoAdd(t *testing.T, why string, b api.Book, part api.Rec, want api.Errno) {
	t.Helper()
	if got, err := above.Add(b, part); err != want || len(got.R) != 0 {
		t.Errorf("%s: Add(%s, %s) = %s, %d; want no records, %d", why, told(b), told(part), told(got), err, want)
	}
}

// checkAddAsTold is of either, what is added and what is not.
func checkAddAsTold(t *testing.T, why string, b api.Book, part api.Rec) {
	t.Helper()
	want, err := toldAdd(b, part)
	if err != api.OK {
		checkNoAdd(t, why, b, part, err)
		return
	}
	checkAdd(t, why, b, part, want)
}

func TestP14_3ABookThatMayNotBe(t *testing.T) {
	for _, b := range badBooks() {
		for _, part := range []api.Rec{dead(1, 9, 0), live(1, at(0, 9, 0, "x")), dead(40, 9, 0, at(0, 10, 0, "x")), {}, {Dead: by(0, 1)}, live(1, api.Field{})} {
			checkNoAdd(t, "a book that may not be", b, part, api.ErrArg)
		}
	}
}

func TestP14_3APartOfNothing(t *testing.T) {
	for _, b := range goodBooks() {
		for _, id := range []byte{0, 1, 9, 77, 255} {
			checkNoAdd(t, "neither Dead nor fields", b, live(id), api.ErrArg)
			checkNoAdd(t, "neither Dead nor an empty list's fields", b, live(id, []api.Field{}...), api.ErrArg)
			checkNoAdd(t, "neither Dead nor an empty list's fields", b, api.Rec{ID: api.ID{id}, F: []api.Field{}}, api.ErrArg)
		}
	}
}

// Also where there is no room for one more: what may not be is named first.
func TestP14_3FieldsThatMayNotBe(t *testing.T) {
	for why, l := range badFields() {
		for _, b := range []api.Book{{}, of(dead(1, 3, 0)), of(live(7, at(0, 1, 0, "a"), at(3, 9, 0, "b"))), span(maxRecs), wide()} {
			checkNoAdd(t, why, b, live(7, l...), api.ErrArg)
			checkNoAdd(t, why+", with a Dead", b, dead(7, 1, 0, l...), api.ErrArg)
			checkNoAdd(t, why+", with a Dead that is greater", b, dead(7, maxN, 7, l...), api.ErrArg)
			checkNoAdd(t, why+", of another one", b, live(77, l...), api.ErrArg)
		}
	}
}

func TestP14_3ADeadThatMayNotBe(t *testing.T) {
	for _, s := range badDeads() {
		for _, b := range []api.Book{{}, of(dead(1, 3, 0)), of(live(7, at(0, 1, 0, "a"), at(3, 9, 0, "b"))), span(maxRecs), wide()} {
			for _, id := range []byte{7, 77} {
				why := fmt.Sprint("a Dead of ", s)
				checkNoAdd(t, why, b, dead(id, s.N, s.Rep), api.ErrArg)
				checkNoAdd(t, why+", with fields", b, dead(id, s.N, s.Rep, at(0, maxN, 7, "a")), api.ErrArg)
				checkNoAdd(t, why+", with fields that may not be", b, dead(id, s.N, s.Rep, at(8, maxN, 7, "a")), api.ErrArg)
			}
		}
	}
}

func TestP14_3Add(t *testing.T) {
	x, y, z := at(1, 3, 0, "x"), at(2, 5, 1, "y"), at(6, 8, 0, scattered(maxVal))
	b := of(live(4, x, y), dead(7, 4, 0, z))
	other := dead(7, 4, 0, z)
	for _, c := range []struct {
		why  string
		part api.Rec
		want api.Book
	}{
		// A Dead alone.
		{"Dead of one that is there", dead(4, 4, 0), of(dead(4, 4, 0, y), other)},
		{"a Dead that leaves all fields", dead(4, 2, 7), of(dead(4, 2, 7, x, y), other)},
		{"a Dead that leaves no field", dead(4, 5, 1), of(dead(4, 5, 1), other)},
		{"a Dead that leaves a field by its Rep", dead(4, 5, 0), of(dead(4, 5, 0, y), other)},
		{"the greatest Dead", dead(4, maxN, 7), of(dead(4, maxN, 7), other)},
		{"a Dead that is less", dead(7, 3, 7), b},
		{"a Dead that is the same", dead(7, 4, 0), b},
		{"Dead of one that is not there", dead(5, 1, 0), of(b.R[0], dead(5, 1, 0), other)},
		{"Dead of one ahead", dead(0, 1, 0), of(dead(0, 1, 0), b.R[0], other)},
		{"Dead of one behind", dead(255, 1, 0), of(b.R[0], other, dead(255, 1, 0))},
		// Fields alone.
		{"a field more", live(4, at(0, 1, 0, "")), of(live(4, at(0, 1, 0, ""), x, y), other)},
		{"a field that is greater", live(4, at(2, 5, 2, "w")), of(live(4, x, at(2, 5, 2, "w")), other)},
		{"a field that is less", live(4, at(2, 5, 0, "w")), b},
		{"a field of one stamp, of a greater digest", live(4, at(1, 3, 0, "b")), of(live(4, at(1, 3, 0, "b"), y), other)},
		{"a field of one stamp, of a less digest", live(7, at(6, 8, 0, "x")), of(live(4, x, y), dead(7, 4, 0, greaterOf(z, at(6, 8, 0, "x"))))},
		{"a field that is dead", live(7, at(0, 4, 0, "x"), at(1, 1, 0, "x")), b},
		{"a field that is dead, and one that is not", live(7, at(0, 4, 0, "x"), at(1, 4, 1, "x")), of(b.R[0], dead(7, 4, 0, at(1, 4, 1, "x"), z))},
		{"fields of one that is not there", live(5, x, z), of(b.R[0], live(5, x, z), other)},
		// Both.
		{"both", dead(4, 4, 0, at(0, 4, 1, "v")), of(dead(4, 4, 0, at(0, 4, 1, "v"), y), other)},
		{"both, the field being dead by the Dead", dead(4, 4, 0, at(0, 4, 0, "v")), of(dead(4, 4, 0, y), other)},
		{"both, of fields some dead", dead(4, 5, 1, at(0, 1, 0, "v"), at(1, 5, 2, "w"), at(5, 5, 1, "")), of(dead(4, 5, 1, at(1, 5, 2, "w")), other)},
		{"both, of one that is not there", dead(5, 4, 0, x, y), of(b.R[0], dead(5, 4, 0, y), other)},
		{"both, the fields dead, of one that is not there", dead(5, 9, 0, x, y), of(b.R[0], dead(5, 9, 0), other)},
		{"both, the Dead being less", dead(7, 2, 0, at(0, 3, 0, "dead there"), at(1, 5, 0, "w")), of(b.R[0], dead(7, 4, 0, at(1, 5, 0, "w"), z))},
	} {
		checkAdd(t, c.why, b, c.part, c.want)
		// Once more it adds nothing.
		checkAdd(t, c.why+", once more", c.want, c.part, c.want)
		checkAddAsTold(t, c.why+", to no records", api.Book{}, c.part)
	}
}

// greaterOf is the greater one of two cells of one stamp.
func greaterOf(a, b api.Field) api.Field {
	if lesserCell(a.C, b.C) {
		return b
	}
	return a
}

// Of an eleventh record Join's own error is told, of whichever half it is.
func TestP14_3NoRoom(t *testing.T) {
	for _, full := range []api.Book{span(maxRecs), wide()} {
		for _, part := range []api.Rec{dead(77, 1, 0), live(77, at(0, 1, 0, "a")), dead(77, 1, 0, at(0, 2, 0, "a")), dead(77, 3, 0, at(0, 2, 0, "a")), {ID: api.ID{15: 1}, Dead: by(1, 0)}} {
			checkNoAdd(t, "no room", full, part, api.ErrLarge)
			less := of(full.R[1:]...)
			checkAddAsTold(t, "just room", less, part)
			if got, err := above.Add(less, part); err != api.OK || len(got.R) != maxRecs {
				t.Errorf("with just room %s, %d was made", told(got), err)
			}
		}
		for _, r := range full.R {
			id := r.ID[0]
			checkAddAsTold(t, "one of the ten", full, dead(id, maxN, 7))
			checkAddAsTold(t, "one of the ten", full, live(id, at(0, maxN, 7, "new")))
			checkAddAsTold(t, "one of the ten", full, dead(id, maxN-1, 7, at(7, maxN, 7, "new"), at(0, 9, 0, "")))
		}
	}
}

// Add is what the book's Join makes of the halves, one behind the other.
func TestP14_3AsJoin(t *testing.T) {
	dice := rand.New(rand.NewPCG(14, 3))
	for range 5000 {
		b := anyBook(dice, 4)
		part := anyRec(dice, byte(dice.IntN(5)*20))
		if dice.IntN(2) == 0 {
			// Then some of the fields may be dead by the part's own Dead.
			part.Dead = by(1+dice.IntN(4), dice.IntN(2))
		}
		checkAddAsTold(t, "any part", b, part)
		want, err := b, api.OK
		if part.Dead != by(0, 0) {
			want, err = book.Join(want, of(api.Rec{ID: part.ID, Dead: part.Dead}))
		}
		if len(part.F) > 0 && err == api.OK {
			want, err = book.Join(want, of(api.Rec{ID: part.ID, F: part.F}))
		}
		if got, e := above.Add(b, part); e != err || !book.Same(got, want) || !book.May(got) {
			t.Errorf("Add(%s, %s) = %s, %d; joined they are %s, %d", told(b), told(part), told(got), e, told(want), err)
		}
	}
}

// Each record of a book by itself is a part of it.
func TestP14_3OfTheSamples(t *testing.T) {
	for _, b := range goodBooks() {
		for _, a := range goodBooks() {
			for _, part := range a.R {
				checkAddAsTold(t, "a record", b, part)
			}
		}
	}
}
