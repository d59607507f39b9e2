package manifest_test

import (
	"fmt"
	"math"
	"slices"
	"testing"

	"rolodex/api"
	"rolodex/book"
	"rolodex/manifest"
	"rolodex/sha"
)

// What may not be, and great numbers: each call ends, and none panics.
func TestR1Anything(t *testing.T) {
	edges := []int{math.MinInt, math.MinInt + 1, -(1 << 32), -1, 0, 1, 7, 8, 200, 1 << 31, 1 << 32, maxN, math.MaxInt - 1, math.MaxInt}
	for i, m := range mayNotBe() {
		if manifest.May(m) || !manifest.Same(m, m) {
			t.Errorf("%d: May is %t, Same of itself %t", i, manifest.May(m), manifest.Same(m, m))
		}
		for _, n := range edges {
			for _, id := range []api.ID{{}, {1}, {2}, {255}} {
				checkLine(t, m, id)
				checkFind(t, m, id, n)
			}
			checkLike(t, m, api.Digest{}, n)
			checkLike(t, m, sha.Of("a"), n)
		}
	}
	for _, n := range edges {
		for _, k := range edges {
			checkOfEither(t, of(api.Rec{Dead: by(n, k)}))
			checkOfEither(t, of(live(1, at(k, n, k, "a"))))
			checkOfEither(t, of(dead(1, k, n, at(k, n, k, scattered(30)))))
			m := lines(line(1, by(n, k), api.Entry{No: n, S: by(k, n), Len: k, B: make([]api.Sig, 25)}))
			if is := manifest.May(m); is != toldMay(m) {
				t.Errorf("May(%s) = %t", told(m), is)
			}
		}
	}
}

// checkOfEither tells of a book what is known of it, or that nothing is.
func checkOfEither(t *testing.T, b api.Book) {
	t.Helper()
	if book.May(b) {
		checkOf(t, b)
	} else {
		checkOfNone(t, b)
	}
}

// Of very many lines, entries and blocks each is looked at no more than a few times.
func TestR1Many(t *testing.T) {
	const many = 1 << 18
	d := sha.Of("a")
	long := lines(make([]api.Line, many)...)
	long.L[many-1] = line(7, by(1, 0), entry(3, by(2, 0), "a"))
	wide := one(make([]api.Entry, many)...)
	wide.L[0].F[many-1] = entry(3, by(2, 0), "a")
	wide.L[0].ID = api.ID{7}
	deep := one(api.Entry{No: 3, S: by(2, 0), Len: 1, D: d, B: make([]api.Sig, many)})
	deep.L[0].ID = api.ID{7}
	for i, m := range []api.Manifest{long, wide, deep} {
		if manifest.May(m) || !manifest.Same(m, clone(m)) {
			t.Errorf("%d: May is %t, Same of a clone %t", i, manifest.May(m), manifest.Same(m, clone(m)))
		}
		if l, is := manifest.Line(m, api.ID{7}); !is || l.F[len(l.F)-1].D != d {
			t.Errorf("%d: Line = %t", i, is)
		}
		if e, is := manifest.Find(m, api.ID{7}, 3); !is || e.D != d {
			t.Errorf("%d: Find = %t", i, is)
		}
		if id, no, is := manifest.Like(m, d, 1); !is || id != (api.ID{7}) || no != 3 {
			t.Errorf("%d: Like = %x, %d, %t", i, id, no, is)
		}
	}
	checkOfNone(t, of(live(1, at(0, 1, 0, scattered(1<<20)))))
	checkOfNone(t, of(make([]api.Rec, 1000)...))
	// Each line has another value: as many are put into the map as there are.
	for i := range long.L[:many-1] {
		long.L[i].F = []api.Entry{{Len: i + 5, D: d}}
	}
	if id, no, is := manifest.Like(long, d, 1); !is || id != (api.ID{7}) || no != 3 {
		t.Errorf("Like of the last one = %x, %d, %t", id, no, is)
	}
}

const spare = 5

// roomy is the same manifest with room behind all lists: there a careless call would write.
func roomy(m api.Manifest) api.Manifest {
	m.L = append(make([]api.Line, 0, len(m.L)+spare), m.L...)
	for i, l := range m.L {
		m.L[i].F = append(make([]api.Entry, 0, len(l.F)+spare), l.F...)
		for j, e := range l.F {
			m.L[i].F[j].B = append(make([]api.Sig, 0, len(e.B)+spare), e.B...)
		}
	}
	return m
}

// whole is all that a roomy manifest has room for, as a text.
func whole(m api.Manifest) string {
	s := spelt(api.Manifest{Base: m.Base, L: m.L[:cap(m.L)]})
	for _, l := range m.L {
		s += speltLine(api.Line{F: l.F[:cap(l.F)]})
		for _, e := range l.F {
			s += speltEntry(api.Entry{B: e.B[:cap(e.B)]})
		}
	}
	return s
}

// spoil writes over all of a manifest's lists, and the room behind them.
func spoil(m api.Manifest) {
	for _, l := range m.L {
		spoilLine(l)
	}
	for i := range m.L[:cap(m.L)] {
		m.L[:cap(m.L)][i] = line(99, by(77, 7))
	}
}

func spoilLine(l api.Line) {
	for _, e := range l.F {
		spoilEntry(e)
	}
	for i := range l.F[:cap(l.F)] {
		l.F[:cap(l.F)][i] = entry(6, by(77, 7), "changed")
	}
}

func spoilEntry(e api.Entry) {
	for i := range e.B[:cap(e.B)] {
		e.B[:cap(e.B)][i] = api.Sig{Weak: 77}
	}
}

// few are the manifests among the samples that are not too long for each of them to be spelt often.
func few() []api.Manifest {
	return slices.DeleteFunc(sampleManifests(), func(m api.Manifest) bool {
		return len(m.L) > 20 || slices.ContainsFunc(m.L, func(l api.Line) bool { return len(l.F) > 20 })
	})
}

func TestR3WhatIsHandedInStays(t *testing.T) {
	for _, m := range few() {
		in := roomy(m)
		was := whole(in)
		manifest.May(in)
		manifest.Same(in, in)
		manifest.Same(in, clone(in))
		for _, l := range m.L {
			spoilLine(first(manifest.Line(in, l.ID)))
			for _, e := range l.F {
				spoilEntry(first(manifest.Find(in, l.ID, e.No)))
				manifest.Like(in, e.D, e.Len)
			}
		}
		if whole(in) != was {
			t.Errorf("%s was handed in, and is %s now", told(m), told(in))
		}
	}
}

// first is what was found, whether it was there or not.
func first[T any](found T, _ bool) T { return found }

func TestR3AnAnswerStays(t *testing.T) {
	for _, m := range few() {
		for _, l := range m.L {
			in := roomy(m)
			got := first(manifest.Line(in, l.ID))
			want := speltLine(got)
			spoil(in)
			if speltLine(got) != want {
				t.Errorf("%s: Line of %x is %v behind a change to what was handed in", told(m), l.ID, got)
			}
			for _, e := range l.F {
				in := roomy(m)
				got := first(manifest.Find(in, l.ID, e.No))
				want := speltEntry(got)
				spoil(in)
				if speltEntry(got) != want {
					t.Errorf("%s: Find of %x, %d is %v behind a change to what was handed in", told(m), l.ID, e.No, got)
				}
			}
		}
	}
}

// A change to one of a line's lists changes nothing of its other ones, nor of another answer.
func TestR3ListsOfALineShareNothing(t *testing.T) {
	for _, m := range few() {
		for _, l := range m.L {
			want := speltLine(first(manifest.Line(m, l.ID)))
			for i := range first(manifest.Line(m, l.ID)).F {
				got, other := first(manifest.Line(m, l.ID)), first(manifest.Line(m, l.ID))
				was := slices.Clone(got.F[i].B)
				spoilEntry(got.F[i])
				got.F[i].B = was
				if speltLine(got) != want || speltLine(other) != want {
					t.Errorf("%s: a change to the blocks of %x, %d has made %v of Line, and %v of another one", told(m), l.ID, i, got, other)
				}
			}
		}
	}
}

func TestR3OfSharesNothing(t *testing.T) {
	for _, b := range goodBooks() {
		in := api.Book{R: append(make([]api.Rec, 0, len(b.R)+spare), b.R...)}
		for i, r := range in.R {
			in.R[i].F = append(make([]api.Field, 0, len(r.F)+spare), r.F...)
		}
		was := fmt.Sprint(in.R[:cap(in.R)])
		m, _ := manifest.Of(in)
		want := spelt(m)
		spoil(first(manifest.Of(in)))
		if fmt.Sprint(in.R[:cap(in.R)]) != was || spelt(m) != want {
			t.Errorf("Of(%q): behind a change to an answer the book is %v, and another answer %s", laid(b), in, told(m))
		}
		for _, r := range in.R {
			clear(r.F[:cap(r.F)])
		}
		clear(in.R[:cap(in.R)])
		if spelt(m) != want {
			t.Errorf("Of(%q) is %s behind a change to the book", laid(b), told(m))
		}
	}
}

// One list of what is known may be changed and gone on with, and the others stay.
func TestR3ListsOfWhatIsKnownShareNothing(t *testing.T) {
	for _, b := range goodBooks() {
		want := toldOf(b)
		for i, l := range want.L {
			m, _ := manifest.Of(b)
			spoilLine(m.L[i])
			m.L[i] = l
			if !equal(m, want) {
				t.Errorf("Of(%q): a change to the line %d has made %s of it", laid(b), i, told(m))
			}
			for j, e := range l.F {
				m, _ := manifest.Of(b)
				spoilEntry(m.L[i].F[j])
				m.L[i].F[j] = e
				if !equal(m, want) {
					t.Errorf("Of(%q): a change to the blocks of %d, %d has made %s of it", laid(b), i, j, told(m))
				}
			}
		}
	}
}

// An answer hangs on nothing that was asked before.
func TestR5AskedAgain(t *testing.T) {
	books, manifests := append(goodBooks(), badBooks()...), few()
	ask := func(b api.Book, m api.Manifest) string {
		known, is := manifest.Of(b)
		l, line := manifest.Line(m, api.ID{1})
		e, entry := manifest.Find(m, api.ID{1}, 0)
		id, no, like := manifest.Like(m, sha.Of("a"), 1)
		return spelt(known) + speltLine(l) + speltEntry(e) + fmt.Sprint(is, line, entry, id, no, like, manifest.May(m), manifest.Same(m, known))
	}
	var answers []string
	for i, m := range manifests {
		answers = append(answers, ask(books[i%len(books)], m))
	}
	for i := len(manifests) - 1; i >= 0; i-- {
		if again := ask(books[i%len(books)], manifests[i]); again != answers[i] {
			t.Errorf("%d: asked again it is %s; it was %s", i, shown(again), shown(answers[i]))
		}
	}
}

// A map has another order each time it is gone through, so one time alone tells little.
func TestR5LikeEachTime(t *testing.T) {
	m, _ := manifest.Of(of(live(1, fields(maxNo)...), live(2, fields(maxNo)...), dead(3, 1, 0, fields(maxNo)...)))
	for no, f := range fields(maxNo) {
		for range 50 {
			if id, got, is := manifest.Like(m, sha.Of(f.C.V), len(f.C.V)); id != (api.ID{1}) || got != no || !is {
				t.Fatalf("Like of the value %d = %x, %d, %t", no, id, got, is)
			}
		}
	}
}
