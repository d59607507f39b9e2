package book_test

import (
	"slices"
	"testing"

	"rolodex/api"
	"rolodex/book"
	"rolodex/rec"
)

const spare = 20

// roomy is the same book with room behind all lists: there a careless answer would write.
func roomy(b api.Book) api.Book {
	recs := append(make([]api.Rec, 0, spare), b.R...)
	for i, r := range recs {
		recs[i].F = append(make([]api.Field, 0, spare), r.F...)
	}
	return api.Book{R: recs}
}

// untouched tells whether a roomy book is as it was, and nothing is written in its room.
func untouched(in, was api.Book) bool {
	if !book.Same(in, was) {
		return false
	}
	for _, r := range in.R {
		if slices.ContainsFunc(r.F[len(r.F):cap(r.F)], func(f api.Field) bool { return f != api.Field{} }) {
			return false
		}
	}
	return !slices.ContainsFunc(in.R[len(in.R):cap(in.R)], func(r api.Rec) bool { return !rec.Same(r, api.Rec{}) })
}

// spoilFields writes over all fields, and the room behind them.
func spoilFields(r api.Rec) {
	for i := range r.F[:cap(r.F)] {
		r.F[:cap(r.F)][i] = at(6, 77, 7, "changed")
	}
}

func spoil(b api.Book) {
	for _, r := range b.R {
		spoilFields(r)
	}
	for i := range b.R[:cap(b.R)] {
		b.R[:cap(b.R)][i] = dead(99, 77, 7)
	}
}

// checkShare asks a call for a book: what it was given stays, and neither one's changes reach the other.
func checkShare(t *testing.T, what string, given []api.Book, ask func(in []api.Book) api.Book) {
	t.Helper()
	hand := func() []api.Book {
		var in []api.Book
		for _, b := range given {
			in = append(in, roomy(b))
		}
		return in
	}
	in := hand()
	got := ask(in)
	for i := range in {
		if !untouched(in[i], given[i]) {
			t.Fatalf("%s: %s was handed in, and is %s now", what, told(given[i]), told(in[i]))
		}
	}
	kept := clone(got)
	for i := range in {
		spoil(in[i])
	}
	if !book.Same(got, kept) {
		t.Fatalf("%s is %s behind a change to what was handed in; it was %s", what, told(got), told(kept))
	}
	in = hand()
	spoil(ask(in))
	for i := range in {
		if !untouched(in[i], given[i]) {
			t.Fatalf("%s: a change to the answer has made %s of %s", what, told(in[i]), told(given[i]))
		}
	}
}

func shareBooks() []api.Book {
	all := append(lawBooks()[:12], goodBooks()...)
	for _, x := range badBooks() {
		if len(x.b.R) <= maxRecs+1 {
			all = append(all, x.b)
		}
	}
	return append(all, of(dead(1, maxN, 0), live(2, at(0, 1, 0, "a"))))
}

func TestR3JoinSharesNothing(t *testing.T) {
	for _, a := range shareBooks() {
		for _, b := range shareBooks() {
			checkShare(t, "Join", []api.Book{a, b}, func(in []api.Book) api.Book {
				book.Leq(in[0], in[1])
				book.Same(in[0], in[1])
				book.May(in[0])
				both, _ := book.Join(in[0], in[1])
				return both
			})
		}
	}
}

func TestR3JoinOfABookAndItselfSharesNothing(t *testing.T) {
	for _, b := range shareBooks() {
		checkShare(t, "Join", []api.Book{b}, func(in []api.Book) api.Book {
			both, _ := book.Join(in[0], in[0])
			return both
		})
	}
}

func TestR3WriteAndKillShareNothing(t *testing.T) {
	for _, b := range shareBooks() {
		for id := range 4 {
			for _, rep := range []int{0, 7, 8} {
				checkShare(t, "Write", []api.Book{b}, func(in []api.Book) api.Book {
					got, _ := book.Write(in[0], api.ID{byte(id)}, 3, rep, "v")
					return got
				})
				checkShare(t, "Kill", []api.Book{b}, func(in []api.Book) api.Book {
					got, _ := book.Kill(in[0], api.ID{byte(id)}, rep)
					return got
				})
			}
		}
	}
}

func TestR3FindSharesNothing(t *testing.T) {
	for _, b := range shareBooks() {
		for _, r := range b.R {
			checkShare(t, "Find", []api.Book{b}, func(in []api.Book) api.Book {
				got, _ := book.Find(in[0], r.ID)
				return api.Book{R: []api.Rec{got}}
			})
		}
	}
}

// One list of an answer may be changed, and the others stay.
func TestR3ListsOfOneAnswerShareNothing(t *testing.T) {
	a, b := span(0, 6), span(3, maxRecs)
	got, _ := book.Join(a, b)
	for i := range got.R {
		want := clone(got)
		spoilFields(got.R[i])
		for j, r := range got.R {
			if j != i && !rec.Same(r, want.R[j]) {
				t.Errorf("a change to the fields of %d has made %s of %s", i, toldRec(r), toldRec(want.R[j]))
			}
		}
		got = want
	}
}
