package canon_test

import (
	"bytes"
	"testing"

	"rolodex/api"
	"rolodex/book"
	"rolodex/canon"
)

const spare = 64

// roomy is the same book with room behind all lists: there a careless call would write.
func roomy(b api.Book) api.Book {
	recs := append(make([]api.Rec, 0, len(b.R)+spare), b.R...)
	for i, r := range recs {
		recs[i].F = append(make([]api.Field, 0, len(r.F)+spare), r.F...)
	}
	return api.Book{R: recs}
}

// whole is all that the lists of a book have room for, told as a book.
func whole(b api.Book) api.Book {
	all := api.Book{R: b.R[:cap(b.R)]}
	all = clone(all)
	for i, r := range b.R {
		all.R[i].F = r.F[:cap(r.F)]
	}
	return clone(all)
}

func TestR3PutChangesNothing(t *testing.T) {
	for _, b := range goodBooks() {
		in := roomy(b)
		was := whole(in)
		p, _ := canon.Put(in)
		canon.Digest(in)
		if !book.Same(whole(in), was) {
			t.Errorf("%s was handed in, and is %s now", told(b), told(in))
		}
		// Neither a change to the answer nor one in its room reaches the book, or another answer.
		p = p[:cap(p)]
		for i := range p {
			p[i] ^= 255
		}
		if again, _ := canon.Put(in); !book.Same(whole(in), was) || string(again) != laid(b) {
			t.Errorf("Put(%s) = %q behind a change to an answer", told(in), again)
		}
	}
}

func TestR3GetSharesNothing(t *testing.T) {
	for _, b := range goodBooks() {
		in := append(make([]byte, 0, 10000), laid(b)...)
		was := bytes.Clone(in[:cap(in)])
		got, _ := canon.Get(in)
		if !bytes.Equal(in[:cap(in)], was) {
			t.Errorf("%q was handed in, and is %q now", laid(b), in)
		}
		for i := range in[:cap(in)] {
			in[:cap(in)][i] ^= 255
		}
		if !book.Same(got, b) {
			t.Errorf("%s was got, and is %s behind a change to the bytes", told(b), told(got))
		}
	}
}

// One list of an answer may be changed and gone on with, and the others stay.
func TestR3ListsOfOneAnswerShareNothing(t *testing.T) {
	for _, b := range goodBooks() {
		for i := range b.R {
			got, _ := canon.Get([]byte(laid(b)))
			want := clone(got)
			f := got.R[i].F[:cap(got.R[i].F)]
			for j := range f {
				f[j] = at(6, 77, 7, "changed")
			}
			got.R[i].F, want.R[i].F = nil, nil
			if !book.Same(got, want) {
				t.Errorf("a change to the fields of %d has made %s of %s", i, told(got), told(want))
			}
		}
	}
}

// An answer hangs on nothing that was asked before.
func TestR5AskedAgain(t *testing.T) {
	b := of(dead(7, 2, 3, at(0, 3, 4, "abc")), live(9, at(1, 1, 0, "x")))
	for _, x := range append(badBooks(), untold()...) {
		canon.Put(x.b)
		canon.Digest(x.b)
		canon.Get([]byte(laid(x.b)))
		canon.Get([]byte(laid(b))[:20])
		if p, is := canon.Put(b); string(p) != laid(b) || !is {
			t.Errorf("%s asked: Put(%s) = %q, %t", x.why, told(b), p, is)
		}
		checkGot(t, laid(b), b)
	}
}
