package above_test

import (
	"math/rand/v2"
	"slices"
	"testing"

	"rolodex/above"
	"rolodex/api"
	"rolodex/book"
	"rolodex/manifest"
)

func checkParts(t *testing.T, why string, a api.Book, m api.Manifest, want ...api.Rec) {
	t.Helper()
	if got := above.Parts(a, m); spelt(got) != spelt(want) {
		t.Errorf("%s: Parts(%s, %s) = %s; want %s", why, told(a), told(m), told(got), told(want))
	}
}

// The example: of a book, and what is known of it.
func TestP14_2OfWhatIsKnownOfItself(t *testing.T) {
	for _, b := range goodBooks() {
		m, is := manifest.Of(b)
		if !is {
			t.Errorf("nothing is known of %s", told(b))
		}
		checkParts(t, "its own manifest", b, m)
		checkParts(t, "its own lines", b, toldOf(b))
	}
}

// Where nothing is known each record is a part, as it is.
func TestP14_2OfWhatIsKnownOfNoRecords(t *testing.T) {
	none, _ := manifest.Of(api.Book{})
	for _, b := range goodBooks() {
		checkParts(t, "no records known", b, none, b.R...)
		checkParts(t, "no lines", b, api.Manifest{}, b.R...)
		checkParts(t, "lines of other names", b, lines(line(77, by(maxN, 7)), line(78, by(0, 0), entry(0, by(maxN, 7), "x"))), b.R...)
	}
}

func TestP14_2OfNoRecords(t *testing.T) {
	for _, b := range goodBooks() {
		checkParts(t, "no records", api.Book{}, toldOf(b))
		checkParts(t, "an empty list", api.Book{R: []api.Rec{}}, toldOf(b))
	}
	checkParts(t, "nothing, and nothing known", api.Book{}, api.Manifest{})
}

// With Deads that are less, the same and greater than the line's, each with fields that exceed what is known, and without.
func TestP14_2DeadAndFields(t *testing.T) {
	old, newer := entry(2, by(9, 0), "abc"), at(2, 9, 1, "x")
	same := at(2, 9, 0, "abc")
	for _, x := range []struct {
		why  string
		dead api.Stamp
		f    []api.Field
		want []api.Rec
	}{
		{"Dead is greater, no fields", by(10, 0), nil, []api.Rec{dead(7, 10, 0)}},
		{"Dead is greater by its Rep", by(5, 4), nil, []api.Rec{dead(7, 5, 4)}},
		{"Dead is greater, a field that does not exceed", by(6, 0), []api.Field{same}, []api.Rec{dead(7, 6, 0)}},
		{"Dead is greater, a field that exceeds", by(6, 0), []api.Field{newer}, []api.Rec{dead(7, 6, 0, newer)}},
		{"Dead is greater, a field more", by(6, 0), []api.Field{same, at(3, 7, 0, "")}, []api.Rec{dead(7, 6, 0, at(3, 7, 0, ""))}},
		{"Dead is the same, no fields", by(5, 3), nil, nil},
		{"Dead is the same, a field that does not exceed", by(5, 3), []api.Field{same}, nil},
		{"Dead is the same, a field that exceeds", by(5, 3), []api.Field{newer}, []api.Rec{live(7, newer)}},
		{"Dead is less, no fields", by(5, 2), nil, nil},
		{"Dead is less, a field that does not exceed", by(4, 7), []api.Field{same}, nil},
		{"Dead is less, a field that exceeds", by(4, 7), []api.Field{newer}, []api.Rec{live(7, newer)}},
		{"a zero Dead, a field that exceeds", by(0, 0), []api.Field{newer}, []api.Rec{live(7, newer)}},
		{"a zero Dead, a field that does not exceed", by(0, 0), []api.Field{same}, nil},
		{"Dead is less, fields that are dead there", by(1, 0), []api.Field{at(0, 5, 3, "x"), at(1, 2, 0, "x"), at(5, 5, 2, "")}, nil},
		{"a zero Dead, and one field of three that is not dead there", by(0, 0), []api.Field{at(0, 5, 3, "x"), at(1, 5, 4, "x"), at(5, 5, 2, "")}, []api.Rec{live(7, at(1, 5, 4, "x"))}},
	} {
		a := of(api.Rec{ID: api.ID{7}, Dead: x.dead, F: x.f})
		m := lines(line(7, by(5, 3), old))
		checkParts(t, x.why, a, m, x.want...)
		// Others ahead and behind make no difference, nor does Base.
		a = of(dead(1, 3, 0), a.R[0], live(9, at(0, 1, 0, "")))
		m = lines(line(1, by(3, 0)), m.L[0], line(9, by(0, 0), entry(0, by(1, 0), "")))
		checkParts(t, x.why+", among others", a, m, x.want...)
		m.Base = api.Digest{31: 9}
		checkParts(t, x.why+", of another Base", a, m, x.want...)
	}
}

// Of one stamp the digests tell.
func TestP14_2FieldsOfOneStamp(t *testing.T) {
	for i, is := range byDigest() {
		for j, v := range byDigest() {
			a := of(dead(7, 2, 0, at(0, 3, 1, v), at(6, 3, 1, v)))
			var want []api.Rec
			if i < j {
				want = []api.Rec{live(7, at(0, 3, 1, v), at(6, 3, 1, v))}
			}
			checkParts(t, "of one stamp", a, lines(line(7, by(2, 0), entry(0, by(3, 1), is), entry(6, by(3, 1), is))), want...)
		}
	}
}

// Each choice of eight fields, those that exceed what is known by one way or another: just these are told, in order.
func TestP14_2SomeFields(t *testing.T) {
	for chosen := range 1 << maxNo {
		var r, want api.Rec
		r.ID, want.ID = api.ID{7}, api.ID{7}
		l := line(7, by(0, 0))
		for no := range maxNo {
			f := at(no, 5, 1, "abc")
			r.F = append(r.F, f)
			e := entry(no, by(5, 1), "abc")
			if chosen>>no&1 == 1 {
				want.F = append(want.F, f)
				e = []api.Entry{entry(no, by(5, 0), "abc"), entry(no, by(4, 7), "z"), entry(no, by(5, 1), "b")}[no%3]
			}
			if chosen>>no&1 == 0 || no%4 != 3 {
				l.F = append(l.F, e)
			}
		}
		if len(l.F) == 0 {
			l.Dead = by(1, 0)
		}
		if len(want.F) == 0 {
			checkParts(t, "no field", of(r), lines(l))
			continue
		}
		checkParts(t, "some fields", of(r), lines(l), want)
	}
}

// Each choice of ten records: just these are told, in order.
func TestP14_2SomeRecords(t *testing.T) {
	all := span(maxRecs)
	for chosen := range 1 << maxRecs {
		var known api.Book
		var want []api.Rec
		for i, r := range all.R {
			if chosen>>i&1 == 1 {
				want = append(want, r)
			} else {
				known.R = append(known.R, r)
			}
		}
		checkParts(t, "some records", all, toldOf(known), want...)
	}
}

func TestP14_2NothingOfWhatMayNotBe(t *testing.T) {
	for i, b := range badBooks() {
		if book.May(b) || mayBook(b) {
			t.Errorf("the book %d may be", i)
		}
		for _, m := range append([]api.Manifest{{}, known(), toldOf(wide())}, badManifests()...) {
			checkParts(t, "a book that may not be", b, m)
		}
	}
	for i, m := range badManifests() {
		if manifest.May(m) || mayManifest(m) {
			t.Errorf("the manifest %d may be", i)
		}
		for _, b := range goodBooks() {
			checkParts(t, "a manifest that may not be", b, m)
		}
	}
}

func TestP14_2AsTold(t *testing.T) {
	dice := rand.New(rand.NewPCG(14, 2))
	kinds := map[[3]bool]int{}
	for range 5000 {
		a, b := anyBook(dice, 5), anyBook(dice, 5)
		m := toldOf(b)
		want := toldParts(a, m)
		checkParts(t, "any two books", a, m, want...)
		for _, r := range a.R {
			i := slices.IndexFunc(want, func(part api.Rec) bool { return part.ID == r.ID })
			kinds[[3]bool{i >= 0, i >= 0 && want[i].Dead != by(0, 0), i >= 0 && len(want[i].F) > 0}]++
		}
	}
	for _, kind := range [][3]bool{{false, false, false}, {true, true, false}, {true, false, true}, {true, true, true}} {
		if kinds[kind] < 100 {
			t.Errorf("%v of the kind %v tell little", kinds, kind)
		}
	}
}

// Of each two of the samples.
func TestP14_2OfTheSamples(t *testing.T) {
	for _, a := range goodBooks() {
		for _, b := range goodBooks() {
			m := toldOf(b)
			checkParts(t, "two samples", a, m, toldParts(a, m)...)
		}
	}
}
