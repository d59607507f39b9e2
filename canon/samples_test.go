package canon_test

import (
	"fmt"
	"math"
	"slices"
	"strings"

	"rolodex/api"
)

const (
	maxN    = 1 << 40
	maxRep  = 8
	maxNo   = 8
	maxRecs = 10
	maxVal  = 200
)

// at is a field of a number, written at n by a replica.
func at(no, n, rep int, v string) api.Field {
	return api.Field{No: no, C: api.Cell{S: api.Stamp{N: n, Rep: rep}, V: v}}
}

// live is a record of a name that never was dead.
func live(id byte, fields ...api.Field) api.Rec {
	return api.Rec{ID: api.ID{id}, F: fields}
}

// dead is a record of a name, dead since n by a replica.
func dead(id byte, n, rep int, fields ...api.Field) api.Rec {
	return api.Rec{ID: api.ID{id}, Dead: api.Stamp{N: n, Rep: rep}, F: fields}
}

func of(recs ...api.Rec) api.Book { return api.Book{R: recs} }

// span is a book of that many records, each with two fields.
func span(many int) api.Book {
	var b api.Book
	for id := range many {
		b.R = append(b.R, live(byte(id), at(id%4, id+1, id%maxRep, fmt.Sprint("v", id)), at(5, id+90, 1, strings.Repeat("w", id*3))))
	}
	return b
}

// fields is that many fields, by rising numbers.
func fields(many int) []api.Field {
	var all []api.Field
	for no := range many {
		all = append(all, at(no, no+3, no%maxRep, fmt.Sprint("f", no)))
	}
	return all
}

func clone(b api.Book) api.Book {
	b.R = slices.Clone(b.R)
	for i, r := range b.R {
		b.R[i].F = slices.Clone(r.F)
	}
	return b
}

// told is a book for a failure's text: it may be long.
func told(b api.Book) string { return fmt.Sprintf("%.300q", fmt.Sprint(b)) }

func goodBooks() []api.Book {
	high := dead(255, maxN-1, 6, at(7, maxN, 7, "\xff\x00\xfe"))
	for i := range high.ID {
		high.ID[i] = 255 - byte(i)
	}
	return []api.Book{
		{},
		of([]api.Rec{}...),
		of(live(0, at(0, 1, 0, ""))),
		of(live(0, at(0, 1, 1, ""))),
		of(live(0, at(1, 1, 0, ""))),
		of(live(1, at(0, 1, 0, ""))),
		of(live(0, at(0, 2, 0, ""))),
		of(live(0, at(0, 1, 0, "\x00"))),
		of(live(0, at(0, 1, 0, ""), at(1, 1, 0, ""))),
		of(dead(0, 1, 0)),
		of(dead(0, 1, 1)),
		of(dead(0, 1, 0, []api.Field{}...), dead(1, 1, 0)),
		of(dead(0, 1, 0, at(0, 1, 1, ""))),
		of(dead(7, 2, 3, at(2, 3, 4, "abc"), at(5, 2, 4, "x"))),
		of(live(1, fields(maxNo)...)),
		of(dead(1, 2, 7, fields(maxNo)...)),
		of(live(9, at(0, 1, 0, strings.Repeat("a", 127)))),
		of(live(9, at(0, 1, 0, strings.Repeat("a", 128)))),
		of(live(9, at(0, 1, 0, strings.Repeat("a", maxVal-1)))),
		of(live(9, at(0, 1, 0, strings.Repeat("a", maxVal)))),
		of(dead(1, maxN, 7)),
		of(high),
		of(dead(1, 5, 0), live(2, at(0, 3, 1, "a")), dead(3, 2, 2, at(1, 4, 0, "b"))),
		of(api.Rec{ID: api.ID{15: 1}, Dead: api.Stamp{N: 1}}, api.Rec{ID: api.ID{15: 2}, Dead: api.Stamp{N: 1}}),
		of(dead(127, 1, 0), dead(128, 1, 0)),
		span(1),
		span(maxRecs - 1),
		span(maxRecs),
	}
}

// badBook is a book that may not be, and why.
type badBook struct {
	why string
	b   api.Book
}

// badBooks are such that bytes could tell them.
func badBooks() []badBook {
	r, s := live(1, at(0, 1, 0, "a")), live(2, at(0, 2, 0, "b"))
	return []badBook{
		{"eleven records", span(maxRecs + 1)},
		{"many records", span(200)},
		{"a zero record", of(api.Rec{})},
		{"a zero record at the end", of(r, live(2))},
		{"no field, and a zero Dead", of(live(1))},
		{"names that fall", of(s, r)},
		{"names that fall at the last byte", of(api.Rec{ID: api.ID{15: 2}, Dead: api.Stamp{N: 1}}, api.Rec{ID: api.ID{15: 1}, Dead: api.Stamp{N: 1}})},
		{"names that fall from 128 to 127", of(dead(128, 1, 0), dead(127, 1, 0))},
		{"names that fall at the end", of(r, live(4, at(0, 1, 0, "")), live(3, at(0, 1, 0, "")))},
		{"a name twice", of(r, live(1, at(1, 2, 0, "b")))},
		{"a record twice", of(r, r)},
		{"the number 8", of(live(1, at(8, 1, 0, "a")))},
		{"the number 255", of(live(1, at(255, 1, 0, "a")))},
		{"the number 128", of(live(1, at(0, 1, 0, "a"), at(128, 1, 0, "a")))},
		{"nine fields", of(live(1, fields(maxNo+1)...))},
		{"many fields", of(live(1, fields(250)...))},
		{"numbers that fall", of(live(1, at(1, 1, 0, ""), at(0, 1, 0, "")))},
		{"a number twice", of(live(1, at(3, 1, 0, ""), at(3, 2, 0, "")))},
		{"a cell of a zero stamp", of(live(1, at(0, 0, 0, "a")))},
		{"a cell of no time", of(live(1, at(0, 0, 7, "a")))},
		{"a cell above the greatest", of(live(1, at(0, maxN+1, 0, "")))},
		{"a Dead of no time", of(dead(1, 0, 1))},
		{"a Dead of no time, with a field", of(dead(1, 0, 1, at(0, 1, 0, "a")))},
		{"a Dead above the greatest", of(dead(1, maxN+1, 0))},
		{"a cell that is dead", of(dead(1, 4, 0, at(0, 4, 0, "a")))},
		{"a cell that is dead for long", of(dead(1, 4, 0, at(0, 5, 0, "a"), at(1, 3, 7, "b")))},
		{"a cell that is dead by a greater replica", of(dead(1, 4, 3, at(0, 4, 2, "a")))},
		{"a value that is too long", of(live(1, at(0, 1, 0, strings.Repeat("x", maxVal+1))))},
		{"a value that is far too long", of(r, live(2, at(0, 1, 0, strings.Repeat("x", 70000))))},
		{"the last record may not be", of(r, s, dead(3, 4, 0, at(0, 4, 0, "")))},
		{"the tenth record may not be", of(append(span(maxRecs-1).R, live(200))...)},
	}
}

// untold are books that may not be either, but of numbers that no bytes tell, or those of another book.
func untold() []badBook {
	return []badBook{
		{"a replica 8", of(live(1, at(0, 1, 8, "a")))},
		{"a Dead by the replica 8", of(dead(1, 1, 8))},
		{"a replica below 0", of(live(1, at(0, 2, -1, "a")))},
		{"a time below 0", of(dead(1, -1, 0))},
		{"a number below 0", of(live(1, at(-1, 1, 0, "a")))},
		{"the number 256", of(live(1, at(256, 1, 0, "a")))},
		{"the least numbers", of(live(1, at(math.MinInt, math.MinInt, math.MinInt, "")))},
		{"the greatest numbers", of(dead(1, math.MaxInt, math.MaxInt, at(math.MaxInt, math.MaxInt, math.MaxInt, "")))},
	}
}

// number is n by groups of seven bits: the test's own, so that it shares nothing with what is tested.
func number(n uint64) string {
	s := string([]byte{byte(n % 128)})
	for n /= 128; n > 0; n /= 128 {
		s = string([]byte{128 + byte(n%128)}) + s
	}
	return s
}

// laid is what a book's bytes would be, whether it may be or not.
func laid(b api.Book) string {
	s := number(uint64(len(b.R)))
	for _, r := range b.R {
		s += string(r.ID[:]) + laidStamp(r.Dead) + number(uint64(len(r.F)))
		for _, f := range r.F {
			s += string([]byte{byte(f.No)}) + laidStamp(f.C.S) + number(uint64(len(f.C.V))) + f.C.V
		}
	}
	return s
}

func laidStamp(s api.Stamp) string { return number(uint64(8*s.N + s.Rep)) }
