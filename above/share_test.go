package above_test

import (
	"fmt"
	"math/rand/v2"
	"slices"
	"testing"

	"rolodex/above"
	"rolodex/api"
	"rolodex/manifest"
)

// What may not be, and great numbers: each call ends, and none panics.
func TestR1Anything(t *testing.T) {
	books, manifests := append(badBooks(), goodBooks()...), append(badManifests(), known(), api.Manifest{}, toldOf(wide()))
	for _, b := range books {
		for _, m := range manifests {
			checkParts(t, "anything", b, m, toldParts(b, m)...)
			for _, r := range b.R[:min(len(b.R), 3)] {
				checkAddAsTold(t, "anything", b, r)
				for _, f := range r.F {
					if got := above.Exceeds(f.C, m, r.ID, f.No); got != toldExceeds(f.C, m, r.ID, f.No) {
						t.Errorf("Exceeds(%s, %s, %x, %d) is %t", told(f.C), told(m), r.ID, f.No, got)
					}
				}
			}
		}
	}
}

func TestR1GreatNumbers(t *testing.T) {
	for _, n := range edges() {
		for _, k := range edges() {
			checkAddAsTold(t, "great numbers", span(3), dead(1, n, k))
			checkAddAsTold(t, "great numbers", span(3), live(1, at(k, n, k, "a")))
			checkAddAsTold(t, "great numbers", span(3), live(1, at(0, n, k, "a")))
			checkAddAsTold(t, "great numbers", span(3), dead(1, k, n, at(0, n, k, "a")))
			checkAddAsTold(t, "great numbers", of(dead(1, n, k)), dead(1, 3, 1, at(0, 4, 0, "a")))
			for _, b := range []api.Book{of(dead(1, n, k)), of(live(1, at(k, n, k, "a"))), of(live(1, at(0, n, k, "a"))), span(3)} {
				for _, m := range []api.Manifest{{}, lines(line(1, by(k, n))), lines(line(1, by(0, 0), entry(n, by(k, n), "b"))), lines(line(1, by(0, 0), entry(0, by(k, n), "b")))} {
					checkParts(t, "great numbers", b, m, toldParts(b, m)...)
				}
			}
		}
	}
}

// Of very many records, lines, entries and bytes each is looked at no more than a few times.
func TestR1Many(t *testing.T) {
	const many = 1 << 18
	long := lines(make([]api.Line, many)...)
	long.L[many-1] = line(7, by(1, 0), entry(3, by(2, 0), "a"))
	flat := lines(line(7, by(1, 0), make([]api.Entry, many)...))
	flat.L[0].F[many-1] = entry(3, by(2, 0), "a")
	deep := lines(line(7, by(1, 0), api.Entry{No: 3, S: by(2, 0), D: entry(3, by(2, 0), "a").D, B: make([]api.Sig, many)}))
	for _, m := range []api.Manifest{long, flat, deep} {
		for _, b := range append(goodBooks()[:3], of(make([]api.Rec, many)...)) {
			if got := above.Parts(b, m); len(got) != 0 {
				t.Errorf("Parts of what is too much is %s", told(got))
			}
		}
		checkExceeds(t, "the last one", cellOf(2, 0, "a"), m, 7, 3, false)
		checkExceeds(t, "the last one", cellOf(2, 0, ""), m, 7, 3, true)
	}
	huge := scattered(1 << 20)
	checkExceeds(t, "a long value", cellOf(2, 0, huge), deep, 7, 3, raw(deep.L[0].F[0].D) < digest(huge))
	checkNoAdd(t, "many records", of(make([]api.Rec, many)...), dead(1, 1, 0), api.ErrArg)
	checkNoAdd(t, "many records of one name", of(slices.Repeat([]api.Rec{dead(1, 1, 0)}, many)...), dead(1, 1, 0), api.ErrArg)
	checkNoAdd(t, "many fields", span(3), dead(1, 1, 0, make([]api.Field, many)...), api.ErrArg)
	checkNoAdd(t, "many good fields", span(3), live(1, slices.Repeat([]api.Field{at(0, 1, 0, "a")}, many)...), api.ErrArg)
	checkNoAdd(t, "a long value", span(3), live(1, at(0, 1, 0, huge)), api.ErrArg)
}

const spare = 5

// roomy is the same record with room behind its fields: there a careless call would write.
func roomy(r api.Rec) api.Rec {
	r.F = append(make([]api.Field, 0, len(r.F)+spare), r.F...)
	return r
}

// roomyBook is the same book with room behind all lists.
func roomyBook(b api.Book) api.Book {
	l := make([]api.Rec, 0, len(b.R)+spare)
	for _, r := range b.R {
		l = append(l, roomy(r))
	}
	return api.Book{R: l}
}

// roomyManifest is the same manifest with room behind all lists.
func roomyManifest(m api.Manifest) api.Manifest {
	m.L = append(make([]api.Line, 0, len(m.L)+spare), m.L...)
	for i, l := range m.L {
		m.L[i].F = append(make([]api.Entry, 0, len(l.F)+spare), l.F...)
		for j, e := range l.F {
			m.L[i].F[j].B = append(make([]api.Sig, 0, len(e.B)+spare), e.B...)
		}
	}
	return m
}

// whole is all that some roomy records have room for, as a text.
func whole(l []api.Rec) string {
	l = slices.Clone(l[:cap(l)])
	for i, r := range l {
		l[i].F = r.F[:cap(r.F)]
	}
	return spelt(l)
}

// wholeManifest is all that a roomy manifest has room for, as a text.
func wholeManifest(m api.Manifest) string {
	s := fmt.Sprint(m, m.L[:cap(m.L)])
	for _, l := range m.L {
		s += fmt.Sprint(l.F[:cap(l.F)])
		for _, e := range l.F {
			s += fmt.Sprint(e.B[:cap(e.B)])
		}
	}
	return s
}

// spoil writes over all of some records, and the room behind them.
func spoil(l []api.Rec) {
	for _, r := range l {
		spoilFields(r.F)
	}
	for i := range l[:cap(l)] {
		l[:cap(l)][i] = dead(99, 77, 7)
	}
}

func spoilFields(l []api.Field) {
	for i := range l[:cap(l)] {
		l[:cap(l)][i] = at(6, 77, 7, "changed")
	}
}

func spoilManifest(m api.Manifest) {
	for i, l := range m.L {
		for j := range l.F {
			l.F[j] = entry(6, by(77, 7), "changed")
		}
		m.L[i] = line(99, by(77, 7))
	}
}

func TestR3PartsShareNothing(t *testing.T) {
	for _, a := range append(goodBooks(), badBooks()...) {
		for _, m := range []api.Manifest{{}, known(), toldOf(of(live(0, at(0, 1, 0, "x")), live(1, fields(3)...))), badManifests()[3]} {
			in, inM := roomyBook(a), roomyManifest(m)
			was, wasM := whole(in.R), wholeManifest(inM)
			want := toldParts(a, m)
			got, other := above.Parts(in, inM), above.Parts(in, inM)
			spoil(got)
			if whole(in.R) != was || wholeManifest(inM) != wasM || spelt(other) != spelt(want) {
				t.Errorf("Parts(%s, %s): behind a change to the answer these are %s, %s, and another answer %s", told(a), told(m), told(in), told(inM), told(other))
			}
			checkParts(t, "asked again", in, inM, want...)
			spoil(in.R)
			spoilManifest(inM)
			if spelt(other) != spelt(want) {
				t.Errorf("Parts(%s, %s) is %s behind a change to what was handed in", told(a), told(m), told(other))
			}
		}
	}
}

// One part's fields may be changed and gone on with, and the others stay.
func TestR3PartsOfOneAnswerShareNothing(t *testing.T) {
	for _, a := range goodBooks() {
		want := toldParts(a, api.Manifest{})
		for i, part := range want {
			got := above.Parts(a, api.Manifest{})
			spoilFields(got[i].F)
			got[i] = part
			if spelt(got) != spelt(want) {
				t.Errorf("Parts(%s): a change to the fields of %d has made %s of it", told(a), i, told(got))
			}
		}
	}
}

func TestR3ExceedsChangesNothing(t *testing.T) {
	for _, m := range append(badManifests(), known(), toldOf(wide())) {
		in := roomyManifest(m)
		was := wholeManifest(in)
		for _, l := range m.L {
			for _, e := range l.F {
				above.Exceeds(api.Cell{S: e.S, V: "a"}, in, l.ID, e.No)
				above.Exceeds(cellOf(maxN, 7, "a"), in, l.ID, e.No+1)
			}
		}
		if wholeManifest(in) != was {
			t.Errorf("%s was handed in, and is %s now", told(m), told(in))
		}
	}
}

// sampleParts are parts that may be added, and some that may not.
func sampleParts() []api.Rec {
	return []api.Rec{
		dead(0, 9, 0), dead(77, 9, 0), live(0, at(0, 9, 0, "x")), live(77, fields(maxNo)...), live(1, fields(maxNo)...),
		dead(1, 5, 0, fields(maxNo)...), dead(77, 5, 0, fields(maxNo)...), dead(20, maxN, 7, at(0, 1, 0, "")),
		{}, live(1), live(1, fields(maxNo+1)...), dead(1, 0, 1, fields(2)...), live(1, at(1, 1, 0, ""), at(0, 1, 0, "")),
	}
}

func TestR3AddSharesNothing(t *testing.T) {
	for _, b := range append(goodBooks(), badBooks()...) {
		for _, part := range sampleParts() {
			in, inPart := roomyBook(b), []api.Rec{roomy(part)}
			was, wasPart := whole(in.R), whole(inPart)
			want, _ := toldAdd(b, part)
			got, _ := above.Add(in, inPart[0])
			other, _ := above.Add(in, inPart[0])
			spoil(got.R)
			if whole(in.R) != was || whole(inPart) != wasPart || spelt(other.R) != spelt(want.R) {
				t.Errorf("Add(%s, %s): behind a change to the answer these are %s, %s, and another answer %s", told(b), told(part), told(in), told(inPart), told(other))
			}
			checkAddAsTold(t, "asked again", in, inPart[0])
			spoil(in.R)
			spoil(inPart)
			if spelt(other.R) != spelt(want.R) {
				t.Errorf("Add(%s, %s) is %s behind a change to what was handed in", told(b), told(part), told(other))
			}
		}
	}
}

// The fields of one record may be changed and gone on with, and the others stay.
func TestR3RecordsOfOneAnswerShareNothing(t *testing.T) {
	for _, b := range goodBooks() {
		for _, part := range sampleParts() {
			want, _ := toldAdd(b, part)
			for i, r := range want.R {
				got, _ := above.Add(b, part)
				spoilFields(got.R[i].F)
				got.R[i] = r
				if spelt(got.R) != spelt(want.R) {
					t.Errorf("Add(%s, %s): a change to the fields of %d has made %s of it", told(b), told(part), i, told(got))
				}
			}
		}
	}
}

// An answer hangs on nothing that was asked before.
func TestR5AskedAgain(t *testing.T) {
	dice := rand.New(rand.NewPCG(14, 7))
	var asks []func() string
	for range 200 {
		a, b := anyBook(dice, 12), anyBook(dice, 12)
		m, _ := manifest.Of(b)
		part := anyRec(dice, byte(dice.IntN(13)*20))
		asks = append(asks, func() string {
			x, err := above.Add(b, part)
			s := spelt(above.Parts(a, m)) + spelt(x.R) + fmt.Sprint(err)
			for no := range maxNo {
				s += fmt.Sprint(above.Exceeds(cellOf(3, 1, "x"), m, part.ID, no))
			}
			return s
		})
	}
	for _, b := range badBooks() {
		asks = append(asks, func() string {
			x, err := above.Add(b, dead(1, 1, 0))
			return spelt(above.Parts(b, known())) + spelt(x.R) + fmt.Sprint(err)
		})
	}
	var answers []string
	for _, ask := range asks {
		answers = append(answers, ask())
	}
	for i, ask := range slices.Backward(asks) {
		if again := ask(); again != answers[i] {
			t.Errorf("%d: asked again it is %s; it was %s", i, again, answers[i])
		}
	}
}
