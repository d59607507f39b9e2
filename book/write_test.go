package book_test

import (
	"fmt"
	"math"
	"strings"
	"testing"

	"rolodex/api"
	"rolodex/book"
	"rolodex/rec"
)

// lastOf is a book's last stamp.
func lastOf(b api.Book) api.Stamp {
	var s api.Stamp
	later := func(x api.Stamp) {
		if x.N > s.N || x.N == s.N && x.Rep > s.Rep {
			s = x
		}
	}
	for _, r := range b.R {
		later(r.Dead)
		for _, f := range r.F {
			later(f.C.S)
		}
	}
	return s
}

func isRep(rep int) bool { return 0 <= rep && rep < maxRep }

// writeErr is the error that Write is to tell.
func writeErr(b api.Book, id api.ID, no, rep int, v string) api.Errno {
	_, is := book.Find(b, id)
	switch {
	case !book.May(b) || no < 0 || no >= maxNo || !isRep(rep) || len(v) > maxVal:
		return api.ErrArg
	case lastOf(b).N == maxN || !is && len(b.R) == maxRecs:
		return api.ErrLarge
	}
	return api.OK
}

// checkWrite asks for what Write is to answer, whatever it is given: all but the field stays.
func checkWrite(t *testing.T, b api.Book, id api.ID, no, rep int, v string) {
	t.Helper()
	got, err := book.Write(b, id, no, rep, v)
	what := fmt.Sprintf("Write(%s, %x, %d, %d, %d bytes)", told(b), id[:2], no, rep, len(v))
	if want := writeErr(b, id, no, rep, v); err != want || err != api.OK {
		checkErrAs(t, what, got, err, want)
		return
	}
	s := api.Stamp{N: lastOf(b).N + 1, Rep: rep}
	r, is := book.Find(got, id)
	if c, has := rec.Find(r, no); !is || !has || c != (api.Cell{S: s, V: v}) {
		t.Errorf("%s: there is %v, of %d by %d", what, is && has, c.S.N, c.S.Rep)
	}
	if !book.May(got) || !book.Leq(b, got) || lastOf(got) != s {
		t.Errorf("%s = %s", what, told(got))
	}
	old, was := book.Find(b, id)
	many := len(b.R)
	if !was {
		many++
	}
	if len(got.R) != many || r.Dead != old.Dead {
		t.Errorf("%s: %d records, dead since %d by %d", what, len(got.R), r.Dead.N, r.Dead.Rep)
	}
	for other := range maxNo {
		c, is := rec.Find(r, other)
		if d, was := rec.Find(old, other); other != no && (is != was || c != d) {
			t.Errorf("%s: the field %d is another one", what, other)
		}
	}
	checkOthers(t, what, b, got, id)
}

func checkOthers(t *testing.T, what string, b, got api.Book, id api.ID) {
	t.Helper()
	for _, r := range b.R {
		if other, is := book.Find(got, r.ID); r.ID != id && (!is || !rec.Same(other, r)) {
			t.Errorf("%s: the record %s is %s, %t", what, toldRec(r), toldRec(other), is)
		}
	}
}

func checkErrAs(t *testing.T, what string, got api.Book, err, want api.Errno) {
	t.Helper()
	if want == api.OK {
		t.Errorf("%s = %s, %d; want no error", what, told(got), err)
		return
	}
	checkErr(t, what, got, err, want)
}

// checkKill asks for what Kill is to answer, whatever it is given.
func checkKill(t *testing.T, b api.Book, id api.ID, rep int) {
	t.Helper()
	_, is := book.Find(b, id)
	want := api.OK
	switch {
	case !book.May(b) || !isRep(rep):
		want = api.ErrArg
	case !is:
		want = api.ErrNone
	case lastOf(b).N == maxN:
		want = api.ErrLarge
	}
	got, err := book.Kill(b, id, rep)
	what := fmt.Sprintf("Kill(%s, %x, %d)", told(b), id[:2], rep)
	if err != want || err != api.OK {
		checkErrAs(t, what, got, err, want)
		return
	}
	s := api.Stamp{N: lastOf(b).N + 1, Rep: rep}
	if r, is := book.Find(got, id); !is || !rec.Same(r, api.Rec{ID: id, Dead: s}) {
		t.Errorf("%s: the record is %s, %t", what, toldRec(r), is)
	}
	if !book.May(got) || !book.Leq(b, got) || len(got.R) != len(b.R) {
		t.Errorf("%s = %s", what, told(got))
	}
	checkOthers(t, what, b, got, id)
}

func checkIs(t *testing.T, what string, got api.Book, err api.Errno, want api.Book) {
	t.Helper()
	if err != api.OK || !book.Same(got, want) {
		t.Errorf("%s = %s, %d; want %s", what, told(got), err, told(want))
	}
}

// The examples: a value that is written first has the stamp 1; killed by replica 3 the record is dead since 2 of 3.
func TestP7_3TheExamples(t *testing.T) {
	b, err := book.Write(api.Book{}, api.ID{7}, 2, 1, "x")
	checkIs(t, "Write", b, err, of(live(7, at(2, 1, 1, "x"))))
	b, err = book.Kill(b, api.ID{7}, 3)
	checkIs(t, "Kill", b, err, of(dead(7, 2, 3)))
	b, err = book.Write(b, api.ID{7}, 0, 0, "y")
	checkIs(t, "Write to a record that is dead", b, err, of(dead(7, 2, 3, at(0, 3, 0, "y"))))
	b, err = book.Write(b, api.ID{3}, 7, 7, "")
	checkIs(t, "Write", b, err, of(live(3, at(7, 4, 7, "")), dead(7, 2, 3, at(0, 3, 0, "y"))))
	b, err = book.Write(b, api.ID{7}, 0, 2, "z")
	checkIs(t, "Write over a value", b, err, of(live(3, at(7, 4, 7, "")), dead(7, 2, 3, at(0, 5, 2, "z"))))
	b, err = book.Kill(b, api.ID{7}, 0)
	checkIs(t, "Kill again", b, err, of(live(3, at(7, 4, 7, "")), dead(7, 6, 0)))
	b, err = book.Kill(b, api.ID{7}, 1)
	checkIs(t, "Kill what is dead", b, err, of(live(3, at(7, 4, 7, "")), dead(7, 7, 1)))
}

func wrongNumbers() []int {
	return []int{-1, 8, 9, -8, 255, 256, math.MaxInt, math.MinInt}
}

func TestP7_3WriteOfAnything(t *testing.T) {
	values := []string{"", "a", "\xff\x00", strings.Repeat("x", maxVal), strings.Repeat("x", maxVal+1), strings.Repeat("\u00e9", maxVal/2+1)}
	for _, b := range goodBooks() {
		for id := range 4 {
			for _, no := range append(wrongNumbers(), 0, 1, 5, 7) {
				for _, rep := range append(wrongNumbers(), 0, 3, 7) {
					for _, v := range values {
						checkWrite(t, b, api.ID{byte(id * 5)}, no, rep, v)
					}
				}
			}
		}
	}
}

func TestP7_3WriteErrArg(t *testing.T) {
	long := strings.Repeat("x", maxVal+1)
	late := of(dead(1, maxN, 0))
	for _, b := range []api.Book{{}, span(0, 3), span(0, maxRecs), late} {
		for _, no := range wrongNumbers() {
			got, err := book.Write(b, api.ID{200}, no, 0, "")
			checkErr(t, fmt.Sprint("Write of the number ", no), got, err, api.ErrArg)
		}
		for _, rep := range wrongNumbers() {
			got, err := book.Write(b, api.ID{200}, 0, rep, "")
			checkErr(t, fmt.Sprint("Write by ", rep), got, err, api.ErrArg)
		}
		got, err := book.Write(b, api.ID{200}, 0, 0, long)
		checkErr(t, "Write of 201 bytes", got, err, api.ErrArg)
	}
	for _, x := range badBooks() {
		got, err := book.Write(x.b, api.ID{1}, 0, 0, "")
		checkErr(t, x.why+": Write", got, err, api.ErrArg)
		got, err = book.Write(x.b, api.ID{200}, 9, 9, long)
		checkErr(t, x.why+": Write", got, err, api.ErrArg)
	}
}

func TestP7_3WriteOfTheLongest(t *testing.T) {
	v := strings.Repeat("x", maxVal)
	b, err := book.Write(api.Book{}, api.ID{1}, 7, 7, v)
	checkIs(t, "Write of 200 bytes", b, err, of(live(1, at(7, 1, 7, v))))
	b, err = book.Write(b, api.ID{1}, 0, 0, "")
	checkIs(t, "Write of no bytes", b, err, of(live(1, at(0, 2, 0, ""), at(7, 1, 7, v))))
}

// lateBooks have the last stamp n by a replica at each place where it may stand.
func lateBooks(n, rep int) []api.Book {
	s := at(4, n, rep, "late")
	return []api.Book{
		of(dead(1, n, rep)),
		of(live(1, s)),
		of(dead(1, n, rep), live(2, at(0, 5, 7, "a")), dead(3, 6, 7)),
		of(live(1, at(0, 5, 7, "a")), dead(2, n, rep), dead(3, 6, 7)),
		of(live(1, at(0, 5, 7, "a")), dead(2, 6, 7), dead(3, n, rep)),
		of(live(1, at(0, 5, 7, "a"), s, at(5, 6, 7, "b")), dead(2, 6, 7)),
		of(dead(1, 6, 7), dead(2, 5, 7, at(0, 6, 0, "a"), s)),
		of(dead(1, 6, 7), dead(2, 5, 7, s, at(7, 6, 0, "a"))),
	}
}

func TestP7_3TheStampIsTheNextOneOfTheLast(t *testing.T) {
	for _, n := range []int{7, 300, maxN - 1} {
		for _, late := range []int{0, 7} {
			for _, b := range lateBooks(n, late) {
				for _, rep := range []int{0, 4, 7} {
					checkWrite(t, b, api.ID{2}, 3, rep, "v")
					checkWrite(t, b, api.ID{9}, 0, rep, "v")
					got, err := book.Write(b, api.ID{9}, 0, rep, "v")
					if r, _ := book.Find(got, api.ID{9}); err != api.OK || !rec.Same(r, live(9, at(0, n+1, rep, "v"))) {
						t.Errorf("Write(%s) by %d = %s, %d", told(b), rep, toldRec(r), err)
					}
					got, err = book.Kill(b, api.ID{1}, rep)
					if r, _ := book.Find(got, api.ID{1}); err != api.OK || !rec.Same(r, dead(1, n+1, rep)) {
						t.Errorf("Kill(%s) by %d = %s, %d", told(b), rep, toldRec(r), err)
					}
				}
			}
		}
	}
}

func TestP7_3NothingIsBehindTheGreatest(t *testing.T) {
	for _, late := range []int{0, 3, 7} {
		for _, b := range lateBooks(maxN, late) {
			for _, id := range []api.ID{{1}, {2}, {9}} {
				got, err := book.Write(b, id, 0, 0, "")
				checkErr(t, "Write behind 2^40", got, err, api.ErrLarge)
			}
			got, err := book.Kill(b, api.ID{1}, 0)
			checkErr(t, "Kill behind 2^40", got, err, api.ErrLarge)
			got, err = book.Kill(b, api.ID{9}, 0)
			checkErr(t, "Kill of none behind 2^40", got, err, api.ErrNone)
			got, err = book.Kill(b, api.ID{9}, maxRep)
			checkErr(t, "Kill of none behind 2^40, by 8", got, err, api.ErrArg)
		}
	}
}

func TestP7_3WriteOfAnEleventhName(t *testing.T) {
	b := span(10, 10+maxRecs)
	for _, id := range []api.ID{{}, {9}, {10, 1}, {20}, {255}} {
		got, err := book.Write(b, id, 0, 0, "v")
		checkErr(t, "Write of an eleventh name", got, err, api.ErrLarge)
	}
	for _, r := range b.R {
		checkWrite(t, b, r.ID, 3, 5, "v")
	}
	nine := of(b.R[1:]...)
	got, err := book.Write(nine, api.ID{10}, 2, 3, "v")
	checkIs(t, "Write of a tenth name", got, err, of(append([]api.Rec{live(10, at(2, 21, 3, "v"))}, nine.R...)...))
}

func TestP7_3WriteToARecordThatIsDead(t *testing.T) {
	b := of(dead(1, 4, 2), dead(2, 3, 0, at(1, 9, 1, "a")))
	got, err := book.Write(b, api.ID{1}, 6, 0, "v")
	checkIs(t, "Write", got, err, of(dead(1, 4, 2, at(6, 10, 0, "v")), dead(2, 3, 0, at(1, 9, 1, "a"))))
	got, err = book.Write(b, api.ID{2}, 1, 0, "v")
	checkIs(t, "Write", got, err, of(dead(1, 4, 2), dead(2, 3, 0, at(1, 10, 0, "v"))))
}

func TestP7_3KillOfAnything(t *testing.T) {
	books := append(goodBooks(), lawBooks()...)
	for _, x := range badBooks() {
		books = append(books, x.b)
	}
	for _, b := range books {
		for id := range 256 {
			checkKill(t, b, api.ID{byte(id)}, id%maxRep)
		}
		for _, rep := range append(wrongNumbers(), 0, 7) {
			checkKill(t, b, api.ID{1}, rep)
			checkKill(t, b, api.ID{1, 1}, rep)
		}
	}
}

func TestP7_3KillErrors(t *testing.T) {
	b := of(live(1, at(0, 1, 0, "a")), dead(2, 2, 0))
	for _, rep := range wrongNumbers() {
		got, err := book.Kill(b, api.ID{1}, rep)
		checkErr(t, fmt.Sprint("Kill by ", rep), got, err, api.ErrArg)
		got, err = book.Kill(b, api.ID{9}, rep)
		checkErr(t, fmt.Sprint("Kill of none by ", rep), got, err, api.ErrArg)
	}
	for _, id := range []api.ID{{}, {3}, {1, 1}, {1, 15: 1}, {15: 1}} {
		got, err := book.Kill(b, id, 0)
		checkErr(t, "Kill of none", got, err, api.ErrNone)
		got, err = book.Kill(api.Book{}, id, 0)
		checkErr(t, "Kill of none", got, err, api.ErrNone)
		got, err = book.Kill(span(20, 20+maxRecs), id, 0)
		checkErr(t, "Kill of none", got, err, api.ErrNone)
	}
	for _, x := range badBooks() {
		got, err := book.Kill(x.b, api.ID{1}, 0)
		checkErr(t, x.why+": Kill", got, err, api.ErrArg)
		got, err = book.Kill(x.b, api.ID{99, 9}, 0)
		checkErr(t, x.why+": Kill of none", got, err, api.ErrArg)
	}
}

func TestP7_4WhatIsWrittenIsFound(t *testing.T) {
	b := api.Book{}
	for i := range 200 {
		id, v := api.ID{byte(i * 7 % maxRecs)}, fmt.Sprint("v", i)
		next, err := book.Write(b, id, i%maxNo, i*3%maxRep, v)
		r, _ := book.Find(next, id)
		if c, is := rec.Find(r, i%maxNo); err != api.OK || !is || c != (api.Cell{S: api.Stamp{N: i + 1, Rep: i * 3 % maxRep}, V: v}) {
			t.Fatalf("%q is written, and %q, %t found; %d", v, c.V, is, err)
		}
		if !book.Leq(b, next) || book.Leq(next, b) {
			t.Fatalf("what is written adds nothing to %s", told(b))
		}
		b = next
	}
}

// What is written elsewhere meanwhile stays, and what is killed elsewhere takes what it knew of.
func TestP2NothingIsLostButWhatIsOverwrittenOrDead(t *testing.T) {
	start, _ := book.Write(api.Book{}, api.ID{1}, 0, 0, "old")
	one, _ := book.Write(start, api.ID{1}, 1, 1, "one")
	two, _ := book.Write(start, api.ID{2}, 0, 2, "two")
	both, err := book.Join(one, two)
	checkIs(t, "Join", both, err, of(live(1, at(0, 1, 0, "old"), at(1, 2, 1, "one")), live(2, at(0, 2, 2, "two"))))
	killed, _ := book.Kill(start, api.ID{1}, 0)
	both, err = book.Join(both, killed)
	checkIs(t, "Join", both, err, of(dead(1, 2, 0, at(1, 2, 1, "one")), live(2, at(0, 2, 2, "two"))))
}
