package book_test

import (
	"fmt"
	"slices"
	"testing"

	"rolodex/api"
	"rolodex/book"
	"rolodex/rec"
)

func checkErr(t *testing.T, what string, b api.Book, err, want api.Errno) {
	t.Helper()
	if err != want || len(b.R) != 0 {
		t.Errorf("%s = %s, %d; want no records, %d", what, told(b), err, want)
	}
}

// checkNoJoin asks either way round.
func checkNoJoin(t *testing.T, why string, a, b api.Book, want api.Errno) {
	t.Helper()
	for _, x := range [][2]api.Book{{a, b}, {b, a}} {
		got, err := book.Join(x[0], x[1])
		checkErr(t, fmt.Sprintf("%s: Join(%s, %s)", why, told(x[0]), told(x[1])), got, err, want)
		if book.Leq(x[0], x[1]) {
			t.Errorf("%s: Leq(%s, %s) is true", why, told(x[0]), told(x[1]))
		}
	}
}

func TestP7_2JoinOfWhatMayNotBe(t *testing.T) {
	for _, x := range badBooks() {
		checkNoJoin(t, x.why, x.b, clone(x.b), api.ErrArg)
		for _, good := range goodBooks() {
			checkNoJoin(t, x.why, x.b, good, api.ErrArg)
		}
		for _, y := range badBooks() {
			checkNoJoin(t, x.why+", and "+y.why, x.b, y.b, api.ErrArg)
		}
		// Where there is no room either, ErrArg is named first.
		checkNoJoin(t, x.why+", and no room", x.b, span(50, 50+maxRecs), api.ErrArg)
		checkNoJoin(t, x.why+", and no room", x.b, span(230, 230+maxRecs), api.ErrArg)
	}
}

func TestP7_2JoinOfTooManyNames(t *testing.T) {
	for _, x := range []struct{ a, b api.Book }{
		{span(0, maxRecs), span(maxRecs, maxRecs+1)},
		{span(0, maxRecs), span(1, maxRecs+1)},
		{span(0, maxRecs), span(maxRecs, 2*maxRecs)},
		{span(0, 6), span(5, 11)},
		{span(0, 6), span(6, 11)},
		{span(1, maxRecs+1), span(0, 1)},
		{span(0, maxRecs), of(dead(100, 1, 0))},
		{span(0, maxRecs), of(api.Rec{ID: api.ID{15: 1}, Dead: api.Stamp{N: 1}})},
	} {
		checkNoJoin(t, "too many names", x.a, x.b, api.ErrLarge)
	}
}

func checkJoin(t *testing.T, a, b, want api.Book) {
	t.Helper()
	for _, x := range [][2]api.Book{{a, b}, {b, a}} {
		if got, err := book.Join(x[0], x[1]); err != api.OK || !book.Same(got, want) {
			t.Errorf("Join(%s, %s) = %s, %d; want %s", told(x[0]), told(x[1]), told(got), err, told(want))
		}
	}
}

func TestP7_2JoinWithJustRoom(t *testing.T) {
	ten := span(0, maxRecs)
	for from := range maxRecs + 1 {
		for to := range from + 1 {
			checkJoin(t, of(ten.R[:from]...), of(ten.R[to:]...), ten)
		}
	}
	checkJoin(t, ten, api.Book{}, ten)
	checkJoin(t, ten, ten, ten)
	checkJoin(t, ten, of(dead(0, 90, 0)), of(append([]api.Rec{dead(0, 90, 0)}, ten.R[1:]...)...))
}

func TestP7_2Join(t *testing.T) {
	x, y := at(1, 3, 0, "x"), at(2, 5, 0, "y")
	for _, c := range []struct{ a, b, want api.Book }{
		{api.Book{}, api.Book{}, api.Book{}},
		{api.Book{}, api.Book{R: []api.Rec{}}, api.Book{}},
		{of(live(1, x)), api.Book{}, of(live(1, x))},
		// A name that one of both has.
		{of(live(1, x)), of(live(2, y)), of(live(1, x), live(2, y))},
		{of(live(2, x)), of(live(1, y), live(3, x)), of(live(1, y), live(2, x), live(3, x))},
		{of(live(1, x), live(4, x)), of(dead(2, 3, 0), live(5, y)), of(live(1, x), dead(2, 3, 0), live(4, x), live(5, y))},
		{of(live(128, x)), of(live(127, y), live(255, y)), of(live(127, y), live(128, x), live(255, y))},
		{
			of(api.Rec{ID: api.ID{1, 15: 1}, Dead: api.Stamp{N: 1}}), of(api.Rec{ID: api.ID{1}, Dead: api.Stamp{N: 1}}),
			of(api.Rec{ID: api.ID{1}, Dead: api.Stamp{N: 1}}, api.Rec{ID: api.ID{1, 15: 1}, Dead: api.Stamp{N: 1}}),
		},
		// A name that both have.
		{of(live(1, x)), of(live(1, y)), of(live(1, x, y))},
		{of(live(1, x)), of(live(1, at(1, 3, 1, "z"))), of(live(1, at(1, 3, 1, "z")))},
		{of(live(1, x)), of(dead(1, 4, 0)), of(dead(1, 4, 0))},
		{of(live(1, x, y)), of(dead(1, 4, 0)), of(dead(1, 4, 0, y))},
		{of(dead(1, 4, 0)), of(dead(1, 4, 1)), of(dead(1, 4, 1))},
		// Some of either kind.
		{
			of(live(1, x), live(2, x), dead(4, 3, 0)), of(live(0, y), live(2, y), live(3, y), live(4, x, y)),
			of(live(0, y), live(1, x), live(2, x, y), live(3, y), dead(4, 3, 0, y)),
		},
	} {
		checkJoin(t, c.a, c.b, c.want)
	}
}

// The example of the whole: a field written at 3, and a record dead since 4.
func TestP7_2TheExample(t *testing.T) {
	checkJoin(t, of(live(7, at(0, 3, 0, "ada"))), of(dead(7, 4, 0)), of(dead(7, 4, 0)))
}

func TestP7_2Leq(t *testing.T) {
	a := of(live(1, at(1, 3, 0, "x")), live(2, at(0, 5, 0, "y")))
	b := of(dead(1, 4, 0), live(3, at(0, 9, 0, "z")))
	both := of(dead(1, 4, 0), live(2, at(0, 5, 0, "y")), live(3, at(0, 9, 0, "z")))
	for _, x := range []struct {
		low, high api.Book
		want      bool
	}{
		{api.Book{}, api.Book{}, true},
		{api.Book{}, a, true},
		{a, api.Book{}, false},
		{a, a, true},
		{a, b, false},
		{b, a, false},
		{a, both, true},
		{b, both, true},
		{both, a, false},
		{both, b, false},
		{of(live(1, at(1, 3, 0, "gone"))), both, true},
		{of(live(1, at(1, 4, 1, "not gone"))), both, false},
		{of(live(2, at(0, 4, 7, "older"))), both, true},
		{of(live(2, at(0, 5, 1, "newer"))), both, false},
		{of(dead(2, 1, 0)), both, false},
		{of(dead(4, 1, 0)), both, false},
		{of(dead(0, 1, 0)), both, false},
		{span(0, 9), span(0, maxRecs), true},
		{span(0, maxRecs), span(0, 9), false},
		{span(0, 1), span(1, maxRecs+1), false},
	} {
		if got := book.Leq(x.low, x.high); got != x.want {
			t.Errorf("Leq(%s, %s) is %t", told(x.low), told(x.high), got)
		}
	}
}

func TestP7_2LeqOfWhatMayNotBe(t *testing.T) {
	for _, x := range badBooks() {
		if book.Leq(x.b, x.b) || book.Leq(x.b, clone(x.b)) {
			t.Errorf("%s: Leq(%s, the same) is true", x.why, told(x.b))
		}
		if book.Leq(api.Book{}, x.b) || book.Leq(x.b, api.Book{}) {
			t.Errorf("%s: Leq of %s and no records is true", x.why, told(x.b))
		}
	}
}

// dice is a short rule that mixes books: each run has the same ones.
type dice uint32

func (d *dice) below(n int) int {
	*d = *d*1664525 + 1013904223
	return int(*d>>16) % n
}

func (d *dice) stamp(most int) api.Stamp {
	return api.Stamp{N: 1 + d.below(most), Rep: d.below(2)}
}

func (d *dice) rec(id byte) api.Rec {
	for {
		r := api.Rec{ID: api.ID{id}}
		if d.below(2) == 0 {
			r.Dead = d.stamp(3)
		}
		for no := range 3 {
			if d.below(2) == 0 {
				r.F = append(r.F, api.Field{No: no, C: api.Cell{S: d.stamp(4), V: string(rune('a' + d.below(3)))}})
			}
		}
		if rec.May(r) {
			return r
		}
	}
}

// mixed is a book that may be, of some of so many names and of few stamps and values, so that two of them often meet.
func (d *dice) mixed(names, of int) api.Book {
	var b api.Book
	for id := range names {
		if len(b.R) < maxRecs && d.below(of) == 0 {
			b.R = append(b.R, d.rec(byte(id*20)))
		}
	}
	return b
}

// joined is what two books are together, worked out name by name, with no map.
func joined(a, b api.Book) (api.Book, api.Errno) {
	var out api.Book
	for id := range 256 {
		in := func(r api.Rec) bool { return r.ID == api.ID{byte(id)} }
		i, j := slices.IndexFunc(a.R, in), slices.IndexFunc(b.R, in)
		switch {
		case i >= 0 && j >= 0:
			both, _ := rec.Join(a.R[i], b.R[j])
			out.R = append(out.R, both)
		case i >= 0:
			out.R = append(out.R, a.R[i])
		case j >= 0:
			out.R = append(out.R, b.R[j])
		}
	}
	if len(out.R) > maxRecs {
		return api.Book{}, api.ErrLarge
	}
	return out, api.OK
}

func TestP7_2JoinOfManyPairs(t *testing.T) {
	var d dice
	large, fit := 0, 0
	for range 5000 {
		a, b := d.mixed(13, 2), d.mixed(13, 2)
		want, err := joined(a, b)
		if err != api.OK {
			large++
			checkNoJoin(t, "too many names", a, b, err)
			continue
		}
		fit++
		checkJoin(t, a, b, want)
		if got := book.Leq(a, b); got != book.Same(want, b) {
			t.Errorf("Leq(%s, %s) is %t", told(a), told(b), got)
		}
	}
	if large < 100 || fit < 100 {
		t.Errorf("%d too large and %d that fit tell little", large, fit)
	}
}

func lawBooks() []api.Book {
	var d dice
	all := []api.Book{{}, span(0, maxRecs), span(5, 9), of(dead(0, 9, 0)), of(dead(20, 3, 1), live(40, at(0, 1, 0, "a")))}
	for len(all) < 25 {
		all = append(all, d.mixed(4, 2))
	}
	for len(all) < 35 {
		all = append(all, d.mixed(13, 2))
	}
	return all
}

func TestP7_4JoinOfABookAndItself(t *testing.T) {
	for _, b := range append(goodBooks(), lawBooks()...) {
		checkJoin(t, b, clone(b), b)
		if !book.Leq(b, b) {
			t.Errorf("Leq(%s, the same) is false", told(b))
		}
	}
}

func TestP7_4JoinEitherWay(t *testing.T) {
	for _, a := range lawBooks() {
		for _, b := range lawBooks() {
			got, err := book.Join(a, b)
			other, otherErr := book.Join(b, a)
			if err != otherErr || !book.Same(got, other) {
				t.Errorf("Join(%s, %s) = %s, %d, the other way %s, %d", told(a), told(b), told(got), err, told(other), otherErr)
			}
			if err != api.OK {
				continue
			}
			if !book.May(got) {
				t.Errorf("Join(%s, %s) = %s may not be", told(a), told(b), told(got))
			}
			if !book.Leq(a, got) || !book.Leq(b, got) {
				t.Errorf("Join(%s, %s) = %s, and one adds to it", told(a), told(b), told(got))
			}
		}
	}
}

// joinAll joins one behind the other, as long as there is room.
func joinAll(first api.Book, others ...api.Book) (api.Book, api.Errno) {
	err := api.OK
	for _, b := range others {
		if err == api.OK {
			first, err = book.Join(first, b)
		}
	}
	return first, err
}

func TestP7_4JoinOfThree(t *testing.T) {
	all := lawBooks()
	for _, a := range all {
		for _, b := range all {
			for _, c := range all {
				want, err := joinAll(a, b, c)
				bc, bcErr := book.Join(b, c)
				got, gotErr := joinAll(bc, a)
				if bcErr != api.OK {
					got, gotErr = bc, bcErr
				}
				// Names are never fewer behind a join: if one order has room, each has.
				if err != gotErr || !book.Same(got, want) {
					t.Fatalf("%s, %s and %s joined: %s, %d, or %s, %d", told(a), told(b), told(c), told(want), err, told(got), gotErr)
				}
			}
		}
	}
}

// In any order, and as often as one likes.
func TestP2JoinInAnyOrder(t *testing.T) {
	var d dice
	for range 300 {
		books := []api.Book{d.mixed(9, 2), d.mixed(9, 2), d.mixed(9, 2), d.mixed(9, 2)}
		want, err := joinAll(books[0], books[1:]...)
		if err != api.OK {
			t.Fatalf("no room for %d names", len(want.R))
		}
		got := api.Book{}
		for range 4 {
			for i := range books {
				j := d.below(i + 1)
				books[i], books[j] = books[j], books[i]
			}
			got, err = joinAll(got, books...)
			if err != api.OK || !book.Same(got, want) {
				t.Fatalf("joined in another order: %s, %d; want %s", told(got), err, told(want))
			}
		}
	}
}

// A map has another order each time it is gone through, so one time alone tells little.
func TestR5JoinAskedAgain(t *testing.T) {
	a, b := span(0, 8), span(2, 10)
	first, err := book.Join(a, b)
	for _, x := range badBooks() {
		book.Join(a, x.b)
		book.Write(x.b, api.ID{1}, 0, 0, "")
	}
	for range 200 {
		if again, e := book.Join(a, b); e != err || !book.Same(again, first) {
			t.Fatalf("Join = %s, %d, asked again %s, %d", told(first), err, told(again), e)
		}
	}
}

// fromBytes is any book that few bytes tell: most of them may not be.
func fromBytes(b []byte) api.Book {
	next := func() int {
		if len(b) == 0 {
			return 0
		}
		n := int(int8(b[0]))
		b = b[1:]
		return n
	}
	var out api.Book
	for len(b) > 0 {
		r := dead(byte(next()), next(), next())
		for range next() & 3 {
			r.F = append(r.F, at(next(), next(), next(), string(make([]byte, next()&1*maxVal+next()&1))))
		}
		out.R = append(out.R, r)
	}
	return out
}

func FuzzAnyBooks(f *testing.F) {
	f.Add([]byte{}, []byte{}, []byte{}, 0, 0, "")
	f.Add([]byte{7, 0, 0, 1, 2, 1, 1, 0, 1}, []byte{7, 4, 0, 0}, []byte{7}, 2, 1, "x")
	f.Add([]byte{3, 1, 0, 0, 7, 2, 3, 0}, []byte{9, 1, 0, 1, 8, 1, 0, 0, 0}, []byte{9}, 7, 7, "y")
	f.Add([]byte{9, 1, 0, 0, 7, 2, 3, 0}, []byte{0, 0, 0, 0}, []byte{0}, -1, 8, "")
	f.Fuzz(func(t *testing.T, p, q, id []byte, no, rep int, v string) {
		a, b := fromBytes(p), fromBytes(q)
		var name api.ID
		copy(name[:], id)
		if !book.May(a) || !book.May(b) {
			checkNoJoin(t, "any two", a, b, api.ErrArg)
		} else if want, err := joined(a, b); err != api.OK {
			checkNoJoin(t, "any two", a, b, err)
		} else {
			checkJoin(t, a, b, want)
		}
		for _, x := range []api.Book{a, b} {
			checkWrite(t, x, name, no, rep, v)
			checkKill(t, x, name, rep)
		}
	})
}
