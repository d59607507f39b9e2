package book_test

import (
	"bytes"
	"fmt"
	"math"
	"slices"
	"strings"
	"testing"

	"rolodex/api"
	"rolodex/book"
	"rolodex/rec"
)

const (
	maxN    = 1 << 40
	maxRep  = 8
	maxNo   = 8
	maxRecs = 10
	maxVal  = 200
)

// at is a field of a number, written at n by a replica.
func at(no, n, rep int, v string) api.Field {
	return api.Field{No: no, C: api.Cell{S: api.Stamp{N: n, Rep: rep}, V: v}}
}

// live is a record of a name that never was dead.
func live(id byte, fields ...api.Field) api.Rec {
	return api.Rec{ID: api.ID{id}, F: fields}
}

// dead is a record of a name, dead since n by a replica.
func dead(id byte, n, rep int, fields ...api.Field) api.Rec {
	return api.Rec{ID: api.ID{id}, Dead: api.Stamp{N: n, Rep: rep}, F: fields}
}

func of(recs ...api.Rec) api.Book { return api.Book{R: recs} }

// span is a book of a record for each name from one on, till ahead of another one.
func span(from, to int) api.Book {
	var b api.Book
	for id := from; id < to; id++ {
		b.R = append(b.R, live(byte(id), at(id%maxNo, id+1, id%maxRep, fmt.Sprint("v", id))))
	}
	return b
}

// clone is a book that shares nothing with b.
func clone(b api.Book) api.Book {
	b.R = slices.Clone(b.R)
	for i, r := range b.R {
		b.R[i].F = slices.Clone(r.F)
	}
	return b
}

// told is a book for a failure's text: it may be long, and its values no texts.
func told(b api.Book) string {
	s := "{"
	for i, r := range b.R {
		if i == 12 {
			s += fmt.Sprintf(" and %d more", len(b.R)-i)
			break
		}
		s += toldRec(r)
	}
	return s + "}"
}

func toldRec(r api.Rec) string {
	s := fmt.Sprintf("{%x dead %d by %d:", r.ID[:2], r.Dead.N, r.Dead.Rep)
	for i, f := range r.F {
		if i == 12 {
			s += fmt.Sprintf(" and %d more", len(r.F)-i)
			break
		}
		s += fmt.Sprintf(" %d %d by %d %.20q", f.No, f.C.S.N, f.C.S.Rep, f.C.V)
	}
	return s + "}"
}

func goodBooks() []api.Book {
	full := dead(1, 2, 7)
	for no := range maxNo {
		full.F = append(full.F, at(no, 3+no, no, fmt.Sprint("v", no)))
	}
	return []api.Book{
		{},
		of([]api.Rec{}...),
		of(live(0, at(0, 1, 0, ""))),
		of(dead(0, 1, 0)),
		of(dead(255, 9, 3, at(7, 10, 0, strings.Repeat("x", maxVal)))),
		of(full),
		of(dead(1, 5, 0), live(2, at(0, 3, 1, "a")), dead(3, 2, 2, at(1, 4, 0, "b"))),
		of(live(127, at(0, 1, 0, "")), live(128, at(0, 1, 0, "")), live(255, at(0, 1, 0, ""))),
		of(api.Rec{ID: api.ID{1}, Dead: api.Stamp{N: 1}}, api.Rec{ID: api.ID{0: 1, 15: 1}, Dead: api.Stamp{N: 1}}),
		span(0, 1),
		span(0, maxRecs-1),
		span(0, maxRecs),
		span(246, 246+maxRecs),
	}
}

// badBook is a book that may not be, and why.
type badBook struct {
	why string
	b   api.Book
}

func badBooks() []badBook {
	r, s := live(1, at(0, 1, 0, "a")), live(2, at(0, 2, 0, "b"))
	return []badBook{
		{"eleven records", span(0, maxRecs+1)},
		{"many records", span(0, 200)},
		{"many records of one name", of(slices.Repeat([]api.Rec{r}, 5000)...)},
		{"a zero record", of(api.Rec{})},
		{"no field, and a zero Dead", of(live(1))},
		{"the first record may not be", of(live(0, at(8, 1, 0, "")), r, s)},
		{"the record in the midst may not be", of(r, live(2, at(0, 1, 8, "")), live(3, at(0, 1, 0, "")))},
		{"the last record may not be", of(r, s, dead(3, 4, 0, at(0, 4, 0, "")))},
		{"the tenth record may not be", of(append(span(0, maxRecs-1).R, live(200))...)},
		{"Dead may not be", of(dead(1, -1, 0))},
		{"Dead above the greatest", of(dead(1, maxN+1, 0))},
		{"Dead of the greatest ints", of(dead(1, math.MaxInt, math.MaxInt))},
		{"a cell above the greatest", of(live(1, at(0, maxN+1, 0, "")))},
		{"a cell of the least ints", of(live(1, at(math.MinInt, math.MinInt, math.MinInt, "")))},
		{"a value that is too long", of(live(1, at(0, 1, 0, strings.Repeat("x", maxVal+1))))},
		{"numbers that fall", of(live(1, at(1, 1, 0, ""), at(0, 1, 0, "")))},
		{"names that fall", of(s, r)},
		{"names that fall at the last byte", of(api.Rec{ID: api.ID{15: 2}, Dead: api.Stamp{N: 1}}, api.Rec{ID: api.ID{15: 1}, Dead: api.Stamp{N: 1}})},
		{"names that fall at the end", of(r, s, live(4, at(0, 1, 0, "")), live(3, at(0, 1, 0, "")))},
		{"names that fall, and rise", of(s, r, live(3, at(0, 1, 0, "")))},
		{"names that fall from 128 to 127", of(live(128, at(0, 1, 0, "")), live(127, at(0, 1, 0, "")))},
		{"a name twice", of(r, live(1, at(1, 2, 0, "b")))},
		{"a record twice", of(r, r)},
		{"a name twice at the end", of(r, s, s)},
		{"a name twice, with one between", of(r, s, r)},
		// Of these stamps there is no next one either.
		{"names that fall, of the greatest stamp", of(s, dead(1, maxN, 7))},
		{"a cell that is dead, of the greatest stamp", of(dead(1, maxN, 7, at(0, maxN, 7, "")))},
	}
}

func checkLess(t *testing.T, low, high api.ID) {
	t.Helper()
	if !book.Less(low, high) {
		t.Errorf("Less(%x, %x) is false", low, high)
	}
	if book.Less(high, low) {
		t.Errorf("Less(%x, %x) is true", high, low)
	}
}

func TestP7_1Less(t *testing.T) {
	most := api.ID(bytes.Repeat([]byte{255}, 16))
	for _, x := range []struct{ low, high api.ID }{
		{api.ID{1}, api.ID{2}},
		{api.ID{}, api.ID{1}},
		{api.ID{}, api.ID{15: 1}},
		{api.ID{0: 7, 15: 1}, api.ID{0: 7, 15: 2}},
		{api.ID{1}, api.ID{1, 1}},
		// Of several bytes the first one counts.
		{api.ID{1, 9, 9}, api.ID{2, 1, 1}},
		{api.ID{0: 1, 15: 9}, api.ID{0: 2, 15: 1}},
		{api.ID{3, 1, 9}, api.ID{3, 2, 0}},
		{api.ID{14: 1, 15: 255}, api.ID{14: 2, 15: 0}},
		{api.ID{0, 255, 255}, api.ID{1}},
		// Bytes of 128 and more are greater than those below.
		{api.ID{127}, api.ID{128}},
		{api.ID{1}, api.ID{255}},
		{api.ID{128}, api.ID{255}},
		{api.ID{15: 127}, api.ID{15: 128}},
		{api.ID{5, 0, 255}, api.ID{5, 128, 0}},
		{api.ID{}, most},
		{api.ID{254}, most},
	} {
		checkLess(t, x.low, x.high)
	}
}

// At each place, whatever stands behind it.
func TestP7_1LessAtEachByte(t *testing.T) {
	for i := range 16 {
		for _, x := range [][2]byte{{0, 1}, {1, 2}, {127, 128}, {0, 255}, {200, 201}} {
			low, high := api.ID{}, api.ID{}
			low[i], high[i] = x[0], x[1]
			checkLess(t, low, high)
			for j := i + 1; j < 16; j++ {
				low[j] = 255
			}
			checkLess(t, low, high)
		}
	}
}

func TestP7_1LessOfTheSameName(t *testing.T) {
	for _, id := range []api.ID{{}, {1}, {15: 1}, {128, 255}, api.ID(bytes.Repeat([]byte{255}, 16))} {
		if book.Less(id, id) {
			t.Errorf("Less(%x, the same) is true", id)
		}
	}
}

func TestP7_1May(t *testing.T) {
	for _, b := range goodBooks() {
		if !book.May(b) {
			t.Errorf("May(%s) is false", told(b))
		}
	}
	for _, x := range badBooks() {
		if book.May(x.b) {
			t.Errorf("%s: May(%s) is true", x.why, told(x.b))
		}
	}
}

// Three names in every order, also those that stand twice: just one order rises.
func TestP7_1MayOfAllOrders(t *testing.T) {
	for a := range 3 {
		for b := range 3 {
			for c := range 3 {
				x := of(dead(byte(a*100), 1, 0), dead(byte(b*100), 1, 0), dead(byte(c*100), 1, 0))
				if got := book.May(x); got != (a < b && b < c) {
					t.Errorf("May(%s) is %t", told(x), got)
				}
			}
		}
	}
}

func checkSame(t *testing.T, why string, a, b api.Book, want bool) {
	t.Helper()
	if got := book.Same(a, b); got != want {
		t.Errorf("%s: Same(%s, %s) is %t", why, told(a), told(b), got)
	}
	if got := book.Same(b, a); got != want {
		t.Errorf("%s: Same(%s, %s) is %t", why, told(b), told(a), got)
	}
}

func TestP7_1Same(t *testing.T) {
	b := of(live(1, at(1, 3, 4, "x")), dead(2, 2, 2, at(0, 5, 6, "y"), at(7, 5, 6, "z")), dead(3, 1, 1))
	checkSame(t, "a copy", b, clone(b), true)
	for _, x := range []struct {
		why    string
		change func(*api.Book)
	}{
		{"another name, the first one", func(o *api.Book) { o.R[0].ID[0]-- }},
		{"another name, the last one", func(o *api.Book) { o.R[2].ID[15]++ }},
		{"another Dead", func(o *api.Book) { o.R[1].Dead.Rep++ }},
		{"another Dead, the last one", func(o *api.Book) { o.R[2].Dead.N++ }},
		{"another number", func(o *api.Book) { o.R[0].F[0].No++ }},
		{"another stamp", func(o *api.Book) { o.R[1].F[1].C.S.N++ }},
		{"another value", func(o *api.Book) { o.R[1].F[0].C.V = "w" }},
		{"a field fewer", func(o *api.Book) { o.R[1].F = o.R[1].F[:1] }},
		{"a field more", func(o *api.Book) { o.R[2].F = append(o.R[2].F, at(0, 9, 0, "")) }},
		{"a record fewer, the first one", func(o *api.Book) { o.R = o.R[1:] }},
		{"a record fewer, the last one", func(o *api.Book) { o.R = o.R[:2] }},
		{"no records", func(o *api.Book) { o.R = nil }},
		{"a record more", func(o *api.Book) { o.R = append(o.R, dead(4, 1, 1)) }},
		{"a zero record more", func(o *api.Book) { o.R = append(o.R, api.Rec{}) }},
		{"a record twice", func(o *api.Book) { o.R = append(o.R, o.R[2]) }},
		{"another order", func(o *api.Book) { slices.Reverse(o.R) }},
		{"another order at the end", func(o *api.Book) { o.R[1], o.R[2] = o.R[2], o.R[1] }},
	} {
		other := clone(b)
		x.change(&other)
		checkSame(t, x.why, b, other, false)
	}
}

func TestP7_1SameOfNoRecords(t *testing.T) {
	none, empty, room := api.Book{}, api.Book{R: []api.Rec{}}, api.Book{R: make([]api.Rec, 0, 5)}
	checkSame(t, "nil and nil", none, none, true)
	checkSame(t, "nil and empty", none, empty, true)
	checkSame(t, "nil and empty, with room", none, room, true)
	checkSame(t, "nil and a zero record", none, of(api.Rec{}), false)
	checkSame(t, "nil and empty fields", of(dead(1, 2, 3)), of(dead(1, 2, 3, []api.Field{}...)), true)
	checkSame(t, "nil and empty fields", of(api.Rec{Dead: api.Stamp{N: 1}}), of(api.Rec{Dead: api.Stamp{N: 1}, F: []api.Field{}}), true)
}

// Same asks nothing of whether a book may be.
func TestP7_1SameOfWhatMayNotBe(t *testing.T) {
	for i, x := range badBooks() {
		checkSame(t, x.why, x.b, clone(x.b), true)
		for _, y := range badBooks()[i+1:] {
			checkSame(t, x.why+", and "+y.why, x.b, y.b, false)
		}
	}
}

func checkFind(t *testing.T, b api.Book, id api.ID, want api.Rec, there bool) {
	t.Helper()
	if r, is := book.Find(b, id); is != there || !rec.Same(r, want) {
		t.Errorf("Find(%s, %x) = %s, %t; want %s, %t", told(b), id, toldRec(r), is, toldRec(want), there)
	}
}

func TestP7_1Find(t *testing.T) {
	for _, b := range goodBooks() {
		for _, r := range b.R {
			checkFind(t, b, r.ID, r, true)
		}
	}
	b := of(live(1, at(1, 3, 4, "x")), dead(3, 2, 2, at(0, 5, 6, "y")))
	for _, id := range []api.ID{{}, {2}, {4}, {255}, {1, 1}, {0: 3, 15: 1}, {1: 1}, {15: 3}} {
		checkFind(t, b, id, api.Rec{}, false)
		checkFind(t, api.Book{}, id, api.Rec{}, false)
	}
	checkFind(t, api.Book{}, api.ID{}, api.Rec{}, false)
}

// A book that may not be is looked through as well: the first record of the name counts, whatever it holds.
func TestP7_1FindOfWhatMayNotBe(t *testing.T) {
	b := of(live(5, at(0, 1, 0, "first")), live(3), live(5, at(0, 9, 0, "second")), live(3, at(0, 9, 0, "third")), live(1, at(9, -1, 9, "bad")))
	checkFind(t, b, api.ID{5}, live(5, at(0, 1, 0, "first")), true)
	checkFind(t, b, api.ID{3}, live(3), true)
	checkFind(t, b, api.ID{1}, live(1, at(9, -1, 9, "bad")), true)
	checkFind(t, b, api.ID{4}, api.Rec{}, false)
	many := span(0, 200)
	checkFind(t, many, api.ID{199}, many.R[199], true)
	checkFind(t, of(api.Rec{}), api.ID{}, api.Rec{}, true)
}
