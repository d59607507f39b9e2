package canon_test

import (
	"crypto/sha256"
	"slices"
	"strings"
	"testing"

	"rolodex/api"
	"rolodex/book"
	"rolodex/canon"
)

// name is the 16 bytes of a name of one byte.
func name(first byte) string {
	return string([]byte{first}) + strings.Repeat("\x00", 15)
}

func TestP8_1PutExamples(t *testing.T) {
	long := strings.Repeat("a", 200)
	for _, x := range []struct {
		b    api.Book
		want string
	}{
		{api.Book{}, "\x00"},
		{of([]api.Rec{}...), "\x00"},
		{of(dead(7, 2, 3)), "\x01" + name(7) + "\x13\x00"},
		{of(live(7, at(2, 1, 1, "x"))), "\x01" + name(7) + "\x00\x01\x02\x09\x01x"},
		{of(dead(7, 2, 3, at(0, 3, 4, ""), at(7, 37, 4, "ab"))), "\x01" + name(7) + "\x13\x02\x00\x1c\x00\x07\x82\x2c\x02ab"},
		{of(dead(1, maxN, 7), live(255, at(5, 1, 0, long))), "\x02" + name(1) + "\x82\x80\x80\x80\x80\x80\x07\x00" + name(255) + "\x00\x01\x05\x08\x81\x48" + long},
		{of(api.Rec{ID: api.ID{0: 1, 7: 2, 15: 3}, Dead: api.Stamp{N: 16}}), "\x01\x01\x00\x00\x00\x00\x00\x00\x02\x00\x00\x00\x00\x00\x00\x00\x03\x81\x00\x00"},
	} {
		if p, is := canon.Put(x.b); string(p) != x.want || !is {
			t.Errorf("Put(%s) = %q, %t; want %q", told(x.b), p, is, x.want)
		}
		checkGot(t, x.want, x.b)
	}
}

func TestP8_1Put(t *testing.T) {
	for _, b := range goodBooks() {
		if p, is := canon.Put(b); string(p) != laid(b) || !is {
			t.Errorf("Put(%s) = %q, %t; want %q", told(b), p, is, laid(b))
		}
	}
}

func TestP8_1PutOfWhatMayNotBe(t *testing.T) {
	for _, x := range append(badBooks(), untold()...) {
		if p, is := canon.Put(x.b); len(p) != 0 || is {
			t.Errorf("%s: Put(%s) = %q, %t; want nothing and false", x.why, told(x.b), p, is)
		}
	}
}

func TestP8_2DigestExamples(t *testing.T) {
	none := api.Digest{0x6e, 0x34, 0x0b, 0x9c, 0xff, 0xb3, 0x7a, 0x98, 0x9c, 0xa5, 0x44, 0xe6, 0xbb, 0x78, 0x0a, 0x2c, 0x78, 0x90, 0x1d, 0x3f, 0xb3, 0x37, 0x38, 0x76, 0x85, 0x11, 0xa3, 0x06, 0x17, 0xaf, 0xa0, 0x1d}
	for _, b := range []api.Book{{}, of([]api.Rec{}...)} {
		if d := canon.Digest(b); d != none {
			t.Errorf("Digest(%s) = %x", told(b), d)
		}
	}
}

func TestP8_2Digest(t *testing.T) {
	for _, b := range goodBooks() {
		if d := canon.Digest(b); d != api.Digest(sha256.Sum256([]byte(laid(b)))) {
			t.Errorf("Digest(%s) = %x", told(b), d)
		}
	}
}

// The digest of no bytes begins by 227, 176.
func TestP8_2DigestOfWhatMayNotBe(t *testing.T) {
	want := api.Digest(sha256.Sum256(nil))
	for _, x := range append(badBooks(), untold()...) {
		if d := canon.Digest(x.b); d != want || d[0] != 227 || d[1] != 176 {
			t.Errorf("%s: Digest(%s) = %x", x.why, told(x.b), d)
		}
	}
}

// neighbours are books of which each differs from b by one thing.
func neighbours(b api.Book) []api.Book {
	var all []api.Book
	change := func(by func(*api.Book)) {
		other := clone(b)
		by(&other)
		all = append(all, other)
	}
	for i, r := range b.R {
		change(func(o *api.Book) { o.R[i].ID[0] ^= 1 })
		change(func(o *api.Book) { o.R[i].ID[15]++ })
		change(func(o *api.Book) { o.R[i].Dead.N++ })
		change(func(o *api.Book) { o.R[i].Dead.Rep++ })
		change(func(o *api.Book) { o.R = slices.Delete(o.R, i, i+1) })
		for j := range r.F {
			change(func(o *api.Book) { o.R[i].F[j].No++ })
			change(func(o *api.Book) { o.R[i].F[j].C.S.N++ })
			change(func(o *api.Book) { o.R[i].F[j].C.S.Rep++ })
			change(func(o *api.Book) { o.R[i].F[j].C.V += "\x00" })
			change(func(o *api.Book) { o.R[i].F[j].C.V = "\x01" + o.R[i].F[j].C.V })
			change(func(o *api.Book) { o.R[i].F = slices.Delete(o.R[i].F, j, j+1) })
		}
	}
	return all
}

func checkApart(t *testing.T, a, b api.Book) {
	t.Helper()
	p, _ := canon.Put(a)
	q, _ := canon.Put(b)
	same := book.Same(a, b)
	if string(p) == string(q) != same || canon.Digest(a) == canon.Digest(b) != same {
		t.Errorf("%s and %s are put as %q and %q", told(a), told(b), p, q)
	}
}

func TestP8_3TwoBooksHaveTheSameBytesJustIfTheyAreTheSame(t *testing.T) {
	for _, a := range goodBooks() {
		checkApart(t, a, clone(a))
		for _, b := range goodBooks() {
			checkApart(t, a, b)
		}
		for _, b := range neighbours(a) {
			if book.May(b) {
				checkApart(t, a, b)
			}
		}
	}
}
