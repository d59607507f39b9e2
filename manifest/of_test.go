package manifest_test

import (
	"encoding/hex"
	"math/rand/v2"
	"strings"
	"testing"

	"rolodex/api"
	"rolodex/book"
	"rolodex/canon"
	"rolodex/manifest"
	"rolodex/sha"
	"rolodex/sign"
)

func checkOf(t *testing.T, b api.Book) {
	t.Helper()
	m, is := manifest.Of(b)
	if want := toldOf(b); !is || !equal(m, want) {
		t.Errorf("Of(%q) = %s, %t; want %s, true", laid(b), told(m), is, told(want))
	}
	if m.Base != canon.Digest(b) {
		t.Errorf("Of(%q) is of the digest %x; the book's is %x", laid(b), m.Base, canon.Digest(b))
	}
}

func checkOfNone(t *testing.T, b api.Book) {
	t.Helper()
	if m, is := manifest.Of(b); is || m.Base != (api.Digest{}) || len(m.L) != 0 {
		t.Errorf("Of(%q) = %s, %t; want a zero one, false", shown(laid(b)), told(m), is)
	}
}

func TestP12_1OfABookWithoutRecords(t *testing.T) {
	for _, b := range []api.Book{{}, {R: []api.Rec{}}, {R: make([]api.Rec, 0, 3)}} {
		m, is := manifest.Of(b)
		// The digest of one byte 0.
		if hex.EncodeToString(m.Base[:]) != "6e340b9cffb37a989ca544e6bb780a2c78901d3fb33738768511a30617afa01d" || len(m.L) != 0 || !is {
			t.Errorf("Of a book without records = %s, %t", told(m), is)
		}
	}
}

func TestP12_1OfOneRecord(t *testing.T) {
	long := "abcdefghijklmnopqrstuvwxyz"
	m, is := manifest.Of(of(dead(7, 2, 3, at(2, 3, 4, "abc"), at(5, 2, 4, long))))
	if !is || len(m.L) != 1 || m.L[0].ID != (api.ID{7}) || m.L[0].Dead != by(2, 3) || len(m.L[0].F) != 2 {
		t.Fatalf("Of = %s, %t", told(m), is)
	}
	e := m.L[0].F[0]
	if e.No != 2 || e.S != by(3, 4) || e.Len != 3 || len(e.B) != 0 || hex.EncodeToString(e.D[:]) != "ba7816bf8f01cfea414140de5dae2223b00361a396177a9cb410ff61f20015ad" {
		t.Errorf("the first entry is %v", e)
	}
	e = m.L[0].F[1]
	if e.No != 5 || e.S != by(2, 4) || e.Len != 26 || e.D != sha.Of(long) || len(e.B) != 3 || e.B[0] != sign.One("abcdefgh") || e.B[1] != sign.One("ijklmnop") || e.B[2] != sign.One("qrstuvwx") {
		t.Errorf("the second entry is %v", e)
	}
}

func TestP12_1OfADeadRecord(t *testing.T) {
	m, is := manifest.Of(of(dead(3, 5, 6), dead(4, 5, 6, at(0, 5, 7, "a"), at(7, 6, 0, ""))))
	if !is || len(m.L) != 2 || m.L[0].ID != (api.ID{3}) || m.L[0].Dead != by(5, 6) || len(m.L[0].F) != 0 {
		t.Fatalf("Of a record that is dead without fields = %s, %t", told(m), is)
	}
	l := m.L[1]
	if l.ID != (api.ID{4}) || l.Dead != by(5, 6) || len(l.F) != 2 || l.F[0].S != by(5, 7) || l.F[1].S != by(6, 0) || l.F[1].No != 7 || l.F[1].Len != 0 {
		t.Errorf("Of a record that is dead, with younger fields = %s", told(m))
	}
}

func TestP12_1OfBooks(t *testing.T) {
	for _, b := range goodBooks() {
		checkOf(t, b)
	}
}

func TestP12_1OfValuesOfManyLengths(t *testing.T) {
	for _, x := range []struct{ length, many int }{
		{0, 0}, {1, 0}, {7, 0}, {8, 0}, {16, 0}, {22, 0}, {23, 0}, {24, 3}, {25, 3}, {31, 3}, {32, 4}, {33, 4}, {199, 24}, {200, 25},
	} {
		v := scattered(x.length)
		b := of(live(1, at(4, 9, 2, v)))
		checkOf(t, b)
		m, _ := manifest.Of(b)
		e, _ := manifest.Find(m, api.ID{1}, 4)
		if e.Len != x.length || len(e.B) != x.many {
			t.Errorf("a value of %d bytes: its Len is %d, and it has %d blocks; want %d", x.length, e.Len, len(e.B), x.many)
			continue
		}
		for i, block := range e.B {
			if block != sign.One(v[8*i:8*i+8]) {
				t.Errorf("a value of %d bytes: the block %d is not that of its bytes", x.length, i)
			}
		}
	}
	for length := range maxVal + 1 {
		checkOf(t, of(live(1, at(0, 1, 0, scattered(length)), at(1, 1, 0, strings.Repeat("\xff", length)))))
	}
}

func TestP12_1OfBooksThatMayNotBe(t *testing.T) {
	for _, b := range badBooks() {
		checkOfNone(t, b)
	}
}

func TestP12_1OfAnyBook(t *testing.T) {
	dice := rand.New(rand.NewPCG(12, 1))
	for range 1000 {
		checkOf(t, anyBook(dice))
	}
}

// checkKnown holds what is known of a book against the book, cell by cell, for all numbers and for names that are there and are not.
func checkKnown(t *testing.T, b api.Book) {
	t.Helper()
	m, is := manifest.Of(b)
	if !is || !manifest.May(m) {
		t.Errorf("what is known of %q may not be: %s, %t", laid(b), told(m), is)
	}
	var zero api.Entry
	for _, id := range names(b) {
		r, there := book.Find(b, id)
		l, found := manifest.Line(m, id)
		if found != there || l.Dead != r.Dead || len(l.F) != len(r.F) {
			t.Errorf("%q: Line of %x = %v, %t", laid(b), id, l, found)
		}
		for no := -1; no <= maxNo; no++ {
			want := zero
			has := false
			for _, f := range r.F {
				if f.No == no {
					want, has = entry(no, f.C.S, f.C.V), true
				}
			}
			if e, found := manifest.Find(m, id, no); found != has || speltEntry(e) != speltEntry(want) {
				t.Errorf("%q: Find of %x and %d = %v, %t; want %v, %t", laid(b), id, no, e, found, want, has)
			}
		}
	}
}

// names are those of a book, and of each its neighbours.
func names(b api.Book) []api.ID {
	l := []api.ID{{}, {1}, {255}, {15: 1}}
	for _, r := range b.R {
		for _, step := range []byte{0, 1, 255} {
			first, last := r.ID, r.ID
			first[0] += step
			last[15] += step
			l = append(l, first, last)
		}
	}
	return l
}

func TestP12_3WhatIsKnown(t *testing.T) {
	for _, b := range goodBooks() {
		checkKnown(t, b)
	}
	dice := rand.New(rand.NewPCG(12, 3))
	for range 1000 {
		checkKnown(t, anyBook(dice))
	}
}

// Books that are written, killed and joined are known as well.
func TestP12_3WhatIsKnownOfBooksThatGrow(t *testing.T) {
	dice := rand.New(rand.NewPCG(12, 33))
	var a, b api.Book
	for i := range 300 {
		next, err := book.Write(a, api.ID{byte(dice.IntN(10))}, dice.IntN(maxNo), dice.IntN(maxRep), anyValue(dice))
		if i%5 == 0 {
			next, err = book.Kill(a, api.ID{byte(dice.IntN(10))}, dice.IntN(maxRep))
		}
		if i%7 == 0 {
			next, err = book.Join(a, b)
		}
		if err != api.OK {
			continue
		}
		a, b = b, next
		checkKnown(t, next)
		checkOf(t, next)
	}
}

// One value, or one stamp, that is another one is known as another one.
func TestP12_3AnotherValueIsKnownAsAnother(t *testing.T) {
	base := of(dead(1, 2, 0, at(3, 5, 1, scattered(40))), live(2, at(0, 1, 0, "a")))
	was, _ := manifest.Of(base)
	for i, b := range []api.Book{
		of(dead(1, 2, 0, at(3, 5, 1, scattered(40)[:39]+"x")), live(2, at(0, 1, 0, "a"))),
		of(dead(1, 2, 0, at(3, 5, 1, scattered(41))), live(2, at(0, 1, 0, "a"))),
		of(dead(1, 2, 0, at(3, 5, 2, scattered(40))), live(2, at(0, 1, 0, "a"))),
		of(dead(1, 2, 0, at(3, 6, 1, scattered(40))), live(2, at(0, 1, 0, "a"))),
		of(dead(1, 3, 0, at(3, 5, 1, scattered(40))), live(2, at(0, 1, 0, "a"))),
		of(dead(1, 2, 0, at(4, 5, 1, scattered(40))), live(2, at(0, 1, 0, "a"))),
		of(dead(1, 2, 0, at(3, 5, 1, scattered(40))), live(3, at(0, 1, 0, "a"))),
		of(dead(1, 2, 0, at(3, 5, 1, scattered(40))), live(2, at(0, 1, 0, "b"))),
		of(dead(1, 2, 0, at(3, 5, 1, scattered(40)))),
		of(dead(1, 2, 0, at(3, 5, 1, scattered(40))), live(2, at(0, 1, 0, "a")), dead(3, 1, 0)),
		of(dead(1, 2, 0, at(3, 5, 1, scattered(40))), live(2, at(0, 1, 0, "a"), at(1, 1, 0, "a"))),
	} {
		if m, is := manifest.Of(b); !is || manifest.Same(m, was) || m.Base == was.Base {
			t.Errorf("%d: of another book the same is known: %s", i, told(m))
		}
	}
	if again, _ := manifest.Of(base); !manifest.Same(again, was) {
		t.Error("of the same book another thing is known")
	}
}
