package op_test

import (
	"fmt"
	"math/rand/v2"
	"slices"
	"testing"

	"rolodex/api"
	"rolodex/book"
	"rolodex/op"
)

func checkDo(t *testing.T, why string, b api.Book, o api.Op, want api.Book) {
	t.Helper()
	if got, err := op.Do(b, o); err != api.OK || spelt(got.R) != spelt(want.R) {
		t.Errorf("%s: Do(%s, %s) = %s, %d; want %s", why, told(b), told(o), told(got), err, told(want))
	}
}

func checkNoDo(t *testing.T, why string, b api.Book, o api.Op, want api.Errno) {
	t.Helper()
	if got, err := op.Do(b, o); err != want || len(got.R) != 0 {
		t.Errorf("%s: Do(%s, %s) = %s, %d; want no records, %d", why, told(b), told(o), told(got), err, want)
	}
}

// checkDoAsTold is of either, what is done and what is not.
func checkDoAsTold(t *testing.T, why string, b api.Book, o api.Op) {
	t.Helper()
	want, err := toldDo(b, o)
	if err != api.OK {
		checkNoDo(t, why, b, o, err)
		return
	}
	checkDo(t, why, b, o, want)
}

func TestP15_2Kill(t *testing.T) {
	x, y, other := at(1, 3, 0, "x"), at(2, 5, 1, "y"), dead(7, 4, 0)
	b := of(live(4, x, y), other)
	for _, c := range []struct {
		why  string
		o    api.Op
		want api.Book
	}{
		{"of the stamp of a field", kill(4, 3, 0), of(dead(4, 3, 0, y), other)},
		{"less than all fields", kill(4, 2, 7), of(dead(4, 2, 7, x, y), other)},
		{"less than a field by its Rep", kill(4, 5, 0), of(dead(4, 5, 0, y), other)},
		{"the same as the greatest field", kill(4, 5, 1), of(dead(4, 5, 1), other)},
		{"the greatest", kill(4, maxN, 7), of(dead(4, maxN, 7), other)},
		{"of a dead one, greater", kill(7, 4, 1), of(b.R[0], dead(7, 4, 1))},
		{"of a dead one, the same", kill(7, 4, 0), b},
		{"of a dead one, less", kill(7, 3, 7), b},
		{"of none, ahead", kill(0, 1, 0), of(dead(0, 1, 0), b.R[0], other)},
		{"of none, between", kill(5, 1, 0), of(b.R[0], dead(5, 1, 0), other)},
		{"of none, behind", kill(255, 1, 0), of(b.R[0], other, dead(255, 1, 0))},
	} {
		checkDo(t, c.why, b, c.o, c.want)
	}
	checkDo(t, "of no records", api.Book{}, kill(7, 5, 0), of(dead(7, 5, 0)))
}

func TestP15_2Set(t *testing.T) {
	x, y, other := at(1, 3, 0, "b"), at(2, 5, 1, "y"), dead(7, 4, 0, at(0, 6, 0, "z"))
	b := of(live(4, x, y), other)
	for _, c := range []struct {
		why  string
		o    api.Op
		want api.Book
	}{
		{"a field more", set(4, 0, 1, 0, ""), of(live(4, at(0, 1, 0, ""), x, y), other)},
		{"greater", set(4, 1, 3, 1, "v"), of(live(4, at(1, 3, 1, "v"), y), other)},
		{"greater, and empty", set(4, 2, 6, 0, ""), of(live(4, x, at(2, 6, 0, "")), other)},
		{"the same stamp and value", set(4, 1, 3, 0, "b"), b},
		{"the same stamp, a greater digest", set(4, 1, 3, 0, "abc"), of(live(4, at(1, 3, 0, "abc"), y), other)},
		{"the same stamp, a less digest", set(4, 1, 3, 0, "x"), b},
		{"less", set(4, 1, 2, 7, "v"), b},
		{"less by its Rep", set(4, 2, 5, 0, "v"), b},
		{"of a dead one, greater", set(7, 3, 4, 1, "v"), of(b.R[0], dead(7, 4, 0, at(0, 6, 0, "z"), at(3, 4, 1, "v")))},
		{"of a dead one, the same", set(7, 3, 4, 0, "v"), b},
		{"of a dead one, less", set(7, 3, 1, 0, "v"), b},
		{"of none", set(5, 7, 1, 0, scattered(maxVal)), of(b.R[0], live(5, at(7, 1, 0, scattered(maxVal))), other)},
	} {
		checkDo(t, c.why, b, c.o, c.want)
	}
	checkDo(t, "of no records", api.Book{}, set(7, 5, 1, 1, "v"), of(live(7, at(5, 1, 1, "v"))))
}

func TestP15_2Copy(t *testing.T) {
	x, y, other := at(1, 3, 0, "b"), at(2, 5, 1, "abc"), dead(7, 4, 0, at(0, 6, 0, ""))
	b := of(live(4, x, y), other)
	for _, c := range []struct {
		why  string
		o    api.Op
		want api.Book
	}{
		{"of another field", copyOf(4, 0, 1, 0, 4, 2, "abc"), of(live(4, at(0, 1, 0, "abc"), x, y), other)},
		{"of the field itself, greater", copyOf(4, 1, 4, 0, 4, 1, "b"), of(live(4, at(1, 4, 0, "b"), y), other)},
		{"of the field itself, less", copyOf(4, 1, 2, 0, 4, 1, "b"), b},
		{"of another record", copyOf(7, 0, 7, 0, 4, 1, "b"), of(b.R[0], dead(7, 4, 0, at(0, 7, 0, "b")))},
		{"of another record, dead", copyOf(7, 3, 4, 0, 4, 1, "b"), b},
		{"of an empty value", copyOf(4, 1, 9, 0, 7, 0, ""), of(live(4, at(1, 9, 0, ""), y), other)},
		{"the same stamp, a greater digest", copyOf(4, 1, 3, 0, 4, 2, "abc"), of(live(4, at(1, 3, 0, "abc"), y), other)},
		{"the same stamp, a less digest", copyOf(4, 2, 5, 1, 4, 1, "b"), b},
		{"to a record that is not there", copyOf(5, 7, 1, 0, 4, 2, "abc"), of(b.R[0], live(5, at(7, 1, 0, "abc")), other)},
	} {
		checkDo(t, c.why, b, c.o, c.want)
	}
	checkNoDo(t, "of no records", api.Book{}, copyOf(4, 1, 4, 0, 4, 1, ""), api.ErrNone)
	checkNoDo(t, "a number that is not there", b, copyOf(4, 1, 4, 0, 4, 0, ""), api.ErrNone)
	checkNoDo(t, "a number of another record", b, copyOf(4, 1, 4, 0, 7, 1, "b"), api.ErrNone)
	checkNoDo(t, "a name that is not there", b, copyOf(4, 1, 4, 0, 5, 1, "b"), api.ErrNone)
	checkNoDo(t, "a name that is alike", b, changed(copyOf(4, 1, 4, 0, 4, 1, "b"), func(o *api.Op) { o.From[15] = 1 }), api.ErrNone)
	checkNoDo(t, "a dead one without fields", of(dead(4, 3, 0)), copyOf(4, 1, 4, 0, 4, 1, ""), api.ErrNone)
	checkNoDo(t, "a digest of another value", b, copyOf(4, 0, 4, 0, 4, 1, "abc"), api.ErrDigest)
	checkNoDo(t, "a zero digest", b, api.Op{Kind: asCopy, ID: api.ID{4}, S: by(9, 0), From: api.ID{4}, FromNo: 1}, api.ErrDigest)
}

func TestP15_2Delta(t *testing.T) {
	long := "abcdefghijklmnopqrstuvwxyz"
	x, y, other := at(1, 3, 0, "b"), at(2, 5, 1, long), dead(7, 4, 0, at(0, 6, 0, ""))
	b := of(live(4, x, y), other)
	for _, c := range []struct {
		why  string
		o    api.Op
		want api.Book
	}{
		{"a copy and a text", deltaOf(4, 2, 6, 0, "abc!", copied(0, 3), text("!")), of(live(4, x, at(2, 6, 0, "abc!")), other)},
		{"in another order", deltaOf(4, 2, 6, 0, "!abc", text("!"), copied(0, 3)), of(live(4, x, at(2, 6, 0, "!abc")), other)},
		{"all of it", deltaOf(4, 2, 6, 0, long, copied(0, 26)), of(live(4, x, at(2, 6, 0, long)), other)},
		{"its end", deltaOf(4, 2, 6, 0, "z", copied(25, 1)), of(live(4, x, at(2, 6, 0, "z")), other)},
		{"all of it often", deltaOf(4, 2, 6, 0, long+long+long, copied(0, 26), copied(0, 26), copied(0, 26)), of(live(4, x, at(2, 6, 0, long+long+long)), other)},
		{"no pieces", deltaOf(4, 2, 6, 0, ""), of(live(4, x, at(2, 6, 0, "")), other)},
		{"texts alone", deltaOf(4, 1, 4, 0, "vw", text("v"), text("w")), of(live(4, at(1, 4, 0, "vw"), y), other)},
		{"as long as it may be", deltaOf(4, 1, 4, 0, scattered(maxVal), text(scattered(maxVal))), of(live(4, at(1, 4, 0, scattered(maxVal)), y), other)},
		{"of an empty value", deltaOf(7, 0, 7, 0, "v", text("v")), of(b.R[0], dead(7, 4, 0, at(0, 7, 0, "v")))},
		{"less", deltaOf(4, 2, 5, 0, "abc", copied(0, 3)), b},
		{"the same stamp, a greater digest", deltaOf(4, 1, 3, 0, "abc", text("abc")), of(live(4, at(1, 3, 0, "abc"), y), other)},
		{"the same stamp, a less digest", deltaOf(4, 1, 3, 0, "x", text("x")), b},
	} {
		checkDo(t, c.why, b, c.o, c.want)
	}
	checkNoDo(t, "of no records", api.Book{}, deltaOf(4, 1, 4, 0, "v", text("v")), api.ErrNone)
	checkNoDo(t, "a number that is not there", b, deltaOf(4, 0, 4, 0, "v", text("v")), api.ErrNone)
	checkNoDo(t, "a number of another record", b, deltaOf(7, 1, 6, 0, "b", copied(0, 1)), api.ErrNone)
	checkNoDo(t, "a name that is not there", b, deltaOf(0, 1, 4, 0, "", []api.Piece{}...), api.ErrNone)
	checkNoDo(t, "a dead one without fields", of(dead(4, 3, 0)), deltaOf(4, 1, 4, 0, "v", text("v")), api.ErrNone)
	checkNoDo(t, "beyond the end by one", b, deltaOf(4, 2, 6, 0, long, copied(0, 27)), api.ErrDigest)
	checkNoDo(t, "beyond the end by From", b, deltaOf(4, 2, 6, 0, "z", copied(26, 1)), api.ErrDigest)
	checkNoDo(t, "beyond the end, behind others", b, deltaOf(4, 2, 6, 0, "", text("v"), copied(0, 3), copied(20, 9)), api.ErrDigest)
	// Where Apply tells nothing, nothing is what the digest is of: it is an error none the less.
	checkNoDo(t, "beyond the end, the digest being that of no bytes", b, deltaOf(4, 2, 6, 0, "", copied(200, 200)), api.ErrDigest)
	checkNoDo(t, "beyond an empty value", b, deltaOf(7, 0, 7, 0, "", copied(0, 1)), api.ErrDigest)
	checkNoDo(t, "a digest of another value", b, deltaOf(4, 2, 6, 0, "abc?", copied(0, 3), text("!")), api.ErrDigest)
	checkNoDo(t, "a digest of the value that was there", b, deltaOf(4, 2, 6, 0, long, copied(0, 3)), api.ErrDigest)
	checkNoDo(t, "a zero digest", b, api.Op{Kind: asDelta, ID: api.ID{4}, S: by(9, 0), No: 1}, api.ErrDigest)
}

func TestP15_2EachByteOfTheDigest(t *testing.T) {
	b := of(live(4, at(1, 3, 0, "b"), at(2, 5, 1, "abc")))
	for _, o := range []api.Op{copyOf(4, 1, 6, 0, 4, 2, "abc"), deltaOf(4, 1, 6, 0, "bb", copied(0, 1), text("b"))} {
		checkDoAsTold(t, "the digest", b, o)
		for i := range o.D {
			checkNoDo(t, fmt.Sprint("the byte ", i, " is another one"), b, changed(o, func(o *api.Op) { o.D[i]++ }), api.ErrDigest)
		}
	}
}

// ErrArg is told whichever else would fit: there may be no such cell, another digest, and no room.
func TestP15_2WhatMayNotBeDone(t *testing.T) {
	for why, o := range badOps() {
		for _, b := range []api.Book{{}, of(live(7, at(2, 4, 0, "abc")), live(8, at(3, 1, 0, "abc"))), span(maxRecs), badBooks()[2]} {
			checkNoDo(t, why, b, o, api.ErrArg)
			o.ID[15] = 9
			checkNoDo(t, why+", of another record", b, o, api.ErrArg)
			o.D[31]++
			checkNoDo(t, why+", of another digest", b, o, api.ErrArg)
		}
	}
}

func TestP15_2ABookThatMayNotBe(t *testing.T) {
	for _, b := range badBooks() {
		for _, o := range slices.Concat(goodOps(), ofEach(), []api.Op{copyOf(1, 0, 9, 0, 1, 0, "a"), copyOf(1, 0, 9, 0, 1, 0, "b"), deltaOf(1, 0, 9, 0, "a", copied(0, 1)), deltaOf(1, 0, 9, 0, "a", copied(0, 2)), kill(1, 9, 0), set(1, 0, 9, 0, "v")}) {
			checkNoDo(t, "a book that may not be", b, o, api.ErrArg)
		}
	}
}

// A book has room for ten records: for fields and Deads of these there is always room.
func TestP15_2NoRoom(t *testing.T) {
	full := span(maxRecs)
	for _, o := range []api.Op{kill(77, 9, 0), set(77, 0, 9, 0, "v"), copyOf(77, 0, 9, 0, 1, 1, "v1"), kill(77, 1, 0), set(77, 0, 1, 0, "")} {
		checkNoDo(t, "one more than there is room for", full, o, api.ErrLarge)
		for many := range maxRecs {
			if o.Kind != asCopy || many > 1 {
				checkDoAsTold(t, "there is room for one more", span(many), o)
			}
		}
	}
	for id := range byte(maxRecs) {
		checkDoAsTold(t, "of one that is there", full, kill(id, maxN, 0))
		checkDoAsTold(t, "of one that is there", full, set(id, 7, maxN, 0, "v"))
		checkDoAsTold(t, "of one that is there", full, copyOf(id, 7, maxN, 0, 1, 1, "v1"))
		checkDoAsTold(t, "of one that is there", full, deltaOf(id, 5, maxN, 0, "v", text("v")))
		checkDoAsTold(t, "of one that is there", wide(), deltaOf(id*20, 5, maxN, 7, "v", text("v")))
	}
	// The errors that are named ahead of Add's are told ahead of it.
	checkNoDo(t, "no such cell, and no room", full, copyOf(77, 0, 9, 0, 1, 2, "v1"), api.ErrNone)
	checkNoDo(t, "another digest, and no room", full, copyOf(77, 0, 9, 0, 1, 1, "v2"), api.ErrDigest)
	checkNoDo(t, "no such record", full, deltaOf(77, 0, 9, 0, "v", text("v")), api.ErrNone)
}

// No such cell is told ahead of another digest: so whatever the pieces and the digest are.
func TestP15_2NoneAheadOfDigest(t *testing.T) {
	for _, b := range goodBooks() {
		for _, l := range goodPieces() {
			checkNoDo(t, "no such cell", b, deltaOf(77, 6, maxN, 7, "another", l...), api.ErrNone)
		}
		checkNoDo(t, "no such cell", b, copyOf(1, 6, maxN, 7, 77, 6, ""), api.ErrNone)
		checkNoDo(t, "no such cell", b, api.Op{Kind: asCopy, S: by(1, 0), From: api.ID{77}}, api.ErrNone)
	}
}

func TestP15_2OfAllBooks(t *testing.T) {
	for _, b := range goodBooks() {
		for _, o := range slices.Concat(goodOps(), ofEach()) {
			checkDoAsTold(t, "of all books", b, o)
		}
		for _, r := range b.R {
			for _, f := range r.F {
				for _, s := range []api.Stamp{by(1, 0), f.C.S, by(maxN, 7)} {
					for _, o := range []api.Op{
						{S: s}, {Kind: asSet, S: s, No: f.No, V: "x"}, {Kind: asSet, S: s, No: 7 - f.No, V: f.C.V},
						copyOf(0, 7-f.No, 1, 0, 0, f.No, f.C.V), copyOf(0, f.No, 1, 0, 0, f.No, f.C.V+"v"), deltaOf(0, f.No, 1, 0, f.C.V+"v", goodPieces()[4]...), deltaOf(0, f.No, 1, 0, "v", text("v")),
					} {
						o.ID, o.S = r.ID, s
						if o.Kind == asCopy {
							o.From = r.ID
						}
						checkDoAsTold(t, "of what is there", b, o)
					}
				}
			}
		}
	}
}

func TestP15_2Any(t *testing.T) {
	dice := rand.New(rand.NewPCG(15, 4))
	errs := map[api.Errno]int{}
	for i := range 20000 {
		// Of few names they often meet; of many ones there often is no room.
		names := 3 + i%2*17
		b := anyBook(dice, names)
		o := anyOp(dice, b, names+1)
		checkDoAsTold(t, "any", b, o)
		_, err := op.Do(b, o)
		errs[err]++
	}
	for _, err := range []api.Errno{api.OK, api.ErrLarge, api.ErrNone, api.ErrDigest} {
		if errs[err] < 500 {
			t.Errorf("of 20000 the error %d is told %d times: the samples are of one kind", err, errs[err])
		}
	}
}

// A book adds nothing to what it is behind whatever is done, nor to what that is behind what is done next.
func TestP15_3NothingIsLost(t *testing.T) {
	dice := rand.New(rand.NewPCG(15, 5))
	for range 400 {
		b := anyBook(dice, 12)
		at := b
		for range 20 {
			next, err := op.Do(at, anyOp(dice, at, 13))
			if err != api.OK {
				continue
			}
			if !mayBook(next) || !book.Leq(at, next) || !book.Leq(b, next) {
				t.Fatalf("%s was done with, and is %s", told(at), told(next))
			}
			at = next
		}
	}
}

func TestP15_3OfAllBooks(t *testing.T) {
	for _, b := range goodBooks() {
		for _, o := range slices.Concat(goodOps(), ofEach()) {
			// What is put does what it did, once it is got.
			p, _ := op.Put(o)
			got, _, _ := op.Get(p)
			next, err := op.Do(b, got)
			if err == api.OK && !book.Leq(b, next) {
				t.Errorf("%s was done with by %s, and is %s", told(b), told(o), told(next))
			}
			checkDoAsTold(t, "what is put is got", b, got)
			// Done again it adds nothing, if it hangs on no value that it changes.
			if again, _ := op.Do(next, got); err == api.OK && o.Kind < asCopy && !book.Same(again, next) {
				t.Errorf("%s was done twice with %s, and is %s", told(o), told(b), told(again))
			}
		}
	}
}
