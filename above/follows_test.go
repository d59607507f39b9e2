package above_test

import (
	"math/rand/v2"
	"slices"
	"testing"

	"rolodex/above"
	"rolodex/api"
	"rolodex/book"
	"rolodex/manifest"
)

// checkFollows asks that b, with all parts by which a exceeds what is known of b, is both joined, and that there are none just if a adds nothing.
func checkFollows(t *testing.T, a, b api.Book) {
	t.Helper()
	m, _ := manifest.Of(b)
	parts := above.Parts(a, m)
	both, err := toldJoin(a, b)
	nothing := err == api.OK && spelt(both.R) == spelt(b.R)
	if (len(parts) == 0) != nothing || book.Leq(a, b) != nothing {
		t.Errorf("%s adds nothing to %s: %t, and the parts are %s", told(a), told(b), nothing, told(parts))
	}
	got, e := withAll(b, parts)
	if e != err || spelt(got.R) != spelt(both.R) {
		t.Errorf("%s with all parts of %s is %s, %d; joined they are %s, %d", told(b), told(a), told(got), e, told(both), err)
	}
	if err != api.OK {
		return
	}
	if joined, e := book.Join(a, b); e != api.OK || !book.Same(joined, got) {
		t.Errorf("%s with all parts of %s is %s; Join makes %s, %d", told(b), told(a), told(got), told(joined), e)
	}
	checkAnyOrder(t, b, parts, got)
	// There is nothing more to tell it then.
	m, _ = manifest.Of(got)
	if more := above.Parts(a, m); len(more) != 0 {
		t.Errorf("%s exceeds itself and %s by %s", told(a), told(b), told(more))
	}
}

// withAll is a book with all of some parts.
func withAll(b api.Book, parts []api.Rec) (api.Book, api.Errno) {
	err := api.OK
	for _, part := range parts {
		if b, err = above.Add(b, part); err != api.OK {
			return b, err
		}
	}
	return b, err
}

// checkAnyOrder adds the parts the other way round, and each one twice.
func checkAnyOrder(t *testing.T, b api.Book, parts []api.Rec, want api.Book) {
	t.Helper()
	back := slices.Clone(parts)
	slices.Reverse(back)
	for _, l := range [][]api.Rec{back, slices.Concat(parts, parts), slices.Concat(back, parts)} {
		if got, err := withAll(b, l); err != api.OK || spelt(got.R) != spelt(want.R) {
			t.Errorf("%s with the parts %s is %s, %d; want %s", told(b), told(l), told(got), err, told(want))
		}
	}
}

func TestP14_4OfTheSamples(t *testing.T) {
	for _, a := range goodBooks() {
		for _, b := range goodBooks() {
			checkFollows(t, a, b)
		}
	}
}

// Each two of all records of few stamps and values: of one stamp and different values, and dead in one of the two.
func TestP14_4OfAllSmallRecords(t *testing.T) {
	all := []api.Book{{}}
	for _, dead := range []api.Stamp{by(0, 0), by(1, 0), by(1, 1), by(2, 0)} {
		for _, low := range someFields(0) {
			for _, high := range someFields(7) {
				r := api.Rec{ID: api.ID{7}, Dead: dead, F: slices.Concat(low, high)}
				if b := of(r); mayBook(b) {
					all = append(all, b)
				}
			}
		}
	}
	if len(all) < 100 {
		t.Errorf("%d records tell little", len(all))
	}
	for _, a := range all {
		for _, b := range all {
			checkFollows(t, a, b)
		}
	}
}

// someFields are no field of a number, or one.
func someFields(no int) [][]api.Field {
	l := [][]api.Field{nil}
	for _, s := range []api.Stamp{by(1, 0), by(1, 1), by(2, 0), by(2, 1)} {
		for _, v := range []string{"a", "b"} {
			l = append(l, []api.Field{{No: no, C: api.Cell{S: s, V: v}}})
		}
	}
	return l
}

func TestP14_4OfAnyTwoBooks(t *testing.T) {
	dice := rand.New(rand.NewPCG(14, 4))
	large, fit, nothing := 0, 0, 0
	for range 3000 {
		a, b := anyBook(dice, 13), anyBook(dice, 13)
		if dice.IntN(2) == 0 {
			a, b = anyBook(dice, 2), anyBook(dice, 2)
		}
		checkFollows(t, a, b)
		both, err := toldJoin(a, b)
		switch {
		case err != api.OK:
			large++
		case spelt(both.R) == spelt(b.R):
			nothing++
		default:
			fit++
		}
	}
	if large < 100 || fit < 100 || nothing < 100 {
		t.Errorf("%d too large, %d that fit and %d that add nothing tell little", large, fit, nothing)
	}
}

// Books that two replicas have written, and of which records were killed, each by itself.
func TestP14_4OfTwoThatWrote(t *testing.T) {
	dice := rand.New(rand.NewPCG(14, 5))
	for range 300 {
		books := [2]api.Book{}
		for range dice.IntN(30) {
			i := dice.IntN(2)
			books[i] = written(dice, books[i], i)
			if dice.IntN(5) == 0 {
				books[1-i], _ = book.Join(books[0], books[1])
			}
		}
		checkFollows(t, books[0], books[1])
		checkFollows(t, books[1], books[0])
	}
}

// written is a book with a value more, or of which a record more is dead.
func written(dice *rand.Rand, b api.Book, rep int) api.Book {
	id := api.ID{byte(dice.IntN(6))}
	if got, err := book.Kill(b, id, rep); dice.IntN(4) == 0 && err == api.OK {
		return got
	}
	got, err := book.Write(b, id, dice.IntN(maxNo), rep, anyValue(dice))
	if err != api.OK {
		return b
	}
	return got
}

// Three books go round: each one has the parts of the others, and all are the same.
func TestP14_4OfThree(t *testing.T) {
	dice := rand.New(rand.NewPCG(14, 6))
	for range 300 {
		l := []api.Book{anyBook(dice, 4), anyBook(dice, 4), anyBook(dice, 4)}
		for range 2 {
			for i := range l {
				m, _ := manifest.Of(l[i])
				l[i], _ = withAll(l[i], above.Parts(l[(i+1)%3], m))
			}
		}
		if spelt(l[0].R) != spelt(l[1].R) || spelt(l[1].R) != spelt(l[2].R) {
			t.Errorf("they differ: %s", told(l))
		}
	}
}
