package above_test

import (
	"crypto/sha256"
	"fmt"
	"math"
	"math/rand/v2"
	"slices"
	"strings"

	"rolodex/api"
)

const (
	maxN    = 1 << 40
	maxRep  = 8
	maxNo   = 8
	maxRecs = 10
	maxVal  = 200
)

// byDigest are values by rising digests: they begin by 2d71, 3e23, ba78, ca97 and e3b0.
func byDigest() []string { return []string{"x", "b", "abc", "a", ""} }

// edges are numbers at which something may wrap around, or be of another kind.
func edges() []int {
	return []int{math.MinInt, math.MinInt + 1, -(1 << 32), -1, 0, 1, 7, 8, 1 << 31, 1 << 32, maxN, maxN + 1, math.MaxInt - 1, math.MaxInt}
}

// scattered is many bytes of which no two neighbours hang on each other.
func scattered(many int) string {
	b := make([]byte, many)
	n := uint64(many)
	for i := range b {
		n = n*6364136223846793005 + 1442695040888963407
		b[i] = byte(n >> 56)
	}
	return string(b)
}

// by is a stamp.
func by(n, rep int) api.Stamp { return api.Stamp{N: n, Rep: rep} }

// cellOf is a value, written at n by a replica.
func cellOf(n, rep int, v string) api.Cell { return api.Cell{S: by(n, rep), V: v} }

// at is a field of a number, written at n by a replica.
func at(no, n, rep int, v string) api.Field { return api.Field{No: no, C: cellOf(n, rep, v)} }

// live is a record of a name that never was dead.
func live(id byte, fields ...api.Field) api.Rec {
	return api.Rec{ID: api.ID{id}, F: fields}
}

// dead is a record of a name, dead since n by a replica.
func dead(id byte, n, rep int, fields ...api.Field) api.Rec {
	return api.Rec{ID: api.ID{id}, Dead: by(n, rep), F: fields}
}

func of(recs ...api.Rec) api.Book { return api.Book{R: recs} }

// span is a book of that many records, each with two fields.
func span(many int) api.Book {
	var b api.Book
	for id := range many {
		b.R = append(b.R, live(byte(id), at(id%4, id+1, id%maxRep, fmt.Sprint("v", id)), at(5, id+90, 1, scattered(id*9))))
	}
	return b
}

// fields is that many fields, by rising numbers.
func fields(many int) []api.Field {
	var all []api.Field
	for no := range many {
		all = append(all, at(no, no+3, no%maxRep, scattered(no*7)))
	}
	return all
}

// wide is a book with as much as there may be: each cell another value of 200 bytes.
func wide() api.Book {
	var b api.Book
	for id := range maxRecs {
		r := dead(byte(id*20), maxN-1, 7)
		for no := range maxNo {
			r.F = append(r.F, at(no, maxN, id%maxRep, fmt.Sprint(id, no)+scattered(maxVal-3)))
		}
		b.R = append(b.R, r)
	}
	return b
}

// goodBooks are books that may be, of many kinds.
func goodBooks() []api.Book {
	high := dead(255, maxN-1, 6, at(7, maxN, 7, "\xff\x00\xfe"))
	for i := range high.ID {
		high.ID[i] = 255 - byte(i)
	}
	return []api.Book{
		{},
		of([]api.Rec{}...),
		of(live(0, at(0, 1, 0, ""))),
		of(live(0, at(0, 1, 0, "\x00"))),
		of(live(0, at(0, 1, 0, "a"), at(3, 1, 0, "a"))),
		of(live(0, at(0, 1, 0, "x"), at(3, 1, 1, "a"))),
		of(live(0, at(0, 1, 1, "x")), live(1, at(0, 1, 0, "b"))),
		of(dead(0, 1, 0)),
		of(dead(0, 1, 1, []api.Field{}...), dead(1, 1, 0)),
		of(dead(0, 1, 0, at(0, 1, 1, "")), live(9, at(0, 3, 0, "x"))),
		of(dead(0, 2, 0, at(0, 2, 1, "b")), dead(9, 3, 0)),
		of(live(1, fields(maxNo)...)),
		of(dead(1, 2, 7, fields(maxNo)...)),
		of(dead(1, 6, 3, fields(maxNo)[4:]...)),
		of(dead(1, maxN, 7)),
		of(high),
		of(dead(1, 5, 0), live(2, at(0, 3, 1, "a")), dead(3, 2, 2, at(1, 4, 0, "a"))),
		of(dead(1, 5, 1), dead(2, 3, 1, at(0, 4, 0, scattered(30))), dead(3, 2, 2, at(1, 4, 0, scattered(40)))),
		of(api.Rec{ID: api.ID{15: 1}, Dead: by(1, 0)}, api.Rec{ID: api.ID{15: 2}, Dead: by(1, 0)}),
		of(dead(127, 1, 0), dead(128, 1, 0)),
		span(1),
		span(maxRecs - 1),
		span(maxRecs),
		wide(),
	}
}

// badBooks are books that may not be.
func badBooks() []api.Book {
	r, s := live(1, at(0, 1, 0, "a")), live(2, at(0, 2, 0, "b"))
	return []api.Book{
		of(api.Rec{}),
		of(live(1)),
		of(r, live(2)),
		of(s, r),
		of(r, r),
		of(r, live(1, at(1, 2, 0, "b"))),
		of(live(1, at(8, 1, 0, "a"))),
		of(live(1, at(-1, 1, 0, "a"))),
		of(live(1, at(1, 1, 0, ""), at(0, 1, 0, ""))),
		of(live(1, at(3, 1, 0, ""), at(3, 2, 0, ""))),
		of(live(1, fields(maxNo+1)...)),
		of(live(1, at(0, 0, 0, "a"))),
		of(live(1, at(0, maxN+1, 0, ""))),
		of(live(1, at(0, 1, 8, ""))),
		of(dead(1, 0, 1)),
		of(dead(1, maxN+1, 0)),
		of(dead(1, 4, 0, at(0, 4, 0, "a"))),
		of(dead(1, 4, 3, at(0, 4, 2, "a"))),
		of(dead(1, 4, 0, at(0, 5, 0, "a"), at(1, 3, 7, "b"))),
		of(live(1, at(0, 1, 0, scattered(maxVal+1)))),
		of(r, live(2, at(0, 1, 0, scattered(70000)))),
		of(r, s, dead(3, 4, 0, at(0, 4, 0, ""))),
		span(maxRecs + 1),
		span(200),
		of(dead(1, math.MaxInt, math.MaxInt, at(math.MaxInt, math.MaxInt, math.MaxInt, ""))),
		of(live(1, at(math.MinInt, math.MinInt, math.MinInt, ""))),
	}
}

// entry is what is known of a cell whose value is v, by the test's own words.
func entry(no int, s api.Stamp, v string) api.Entry {
	return api.Entry{No: no, S: s, Len: len(v), D: sha256.Sum256([]byte(v)), B: toldBlocks(v)}
}

// line is what is known of a record.
func line(id byte, dead api.Stamp, l ...api.Entry) api.Line {
	return api.Line{ID: api.ID{id}, Dead: dead, F: l}
}

func lines(l ...api.Line) api.Manifest {
	return api.Manifest{Base: api.Digest{1, 2, 3}, L: l}
}

// rising is that many lines, their names rising.
func rising(many int) []api.Line {
	var l []api.Line
	for id := range many {
		l = append(l, line(byte(id), by(id+1, 0)))
	}
	return l
}

// badManifests are manifests that may not be.
func badManifests() []api.Manifest {
	a, b := line(1, by(1, 0), entry(0, by(2, 0), "a")), line(2, by(2, 0))
	one := func(l ...api.Entry) api.Manifest { return lines(line(1, by(0, 0), l...)) }
	return []api.Manifest{
		lines(api.Line{}),
		lines(line(1, by(0, 0))),
		lines(a, b, line(3, by(0, 0))),
		lines(b, a),
		lines(a, a),
		lines(a, line(1, by(2, 0))),
		lines(rising(maxRecs + 1)...),
		lines(rising(200)...),
		lines(line(1, by(0, 1))),
		lines(line(1, by(-1, 0))),
		lines(a, b, line(3, by(maxN+1, 0))),
		one(entry(-1, by(1, 0), "a")),
		one(entry(8, by(1, 0), "a")),
		one(entry(1, by(1, 0), "a"), entry(0, by(1, 0), "a")),
		one(entry(1, by(1, 0), "a"), entry(1, by(2, 0), "a")),
		one(entry(0, by(0, 0), "a")),
		one(entry(0, by(1, 8), "a")),
		lines(line(1, by(3, 0), entry(0, by(3, 0), "a"))),
		lines(line(1, by(3, 0), entry(0, by(4, 0), "a"), entry(1, by(2, 0), "a"))),
		one(api.Entry{S: by(1, 0), Len: -1}),
		one(api.Entry{S: by(1, 0), Len: maxVal + 1, B: make([]api.Sig, 25)}),
		one(api.Entry{S: by(1, 0), Len: 24}),
		one(api.Entry{S: by(1, 0), Len: 23, B: make([]api.Sig, 2)}),
		one(api.Entry{S: by(1, 0), Len: maxVal, B: make([]api.Sig, 26)}),
		one(api.Entry{No: math.MaxInt, S: by(math.MaxInt, math.MaxInt), Len: math.MaxInt}),
		one(api.Entry{No: math.MinInt, S: by(math.MinInt, math.MinInt), Len: math.MinInt}),
	}
}

// badFields are fields that may not be, nor may a record of them, and why.
func badFields() map[string][]api.Field {
	return map[string][]api.Field{
		"numbers that fall":            {at(1, 1, 0, ""), at(0, 1, 0, "")},
		"numbers that rise, and fall":  {at(0, 1, 0, ""), at(5, 1, 0, ""), at(4, 1, 0, "")},
		"a number twice":               {at(3, 1, 0, "a"), at(3, 2, 0, "b")},
		"a field twice":                {at(3, 1, 0, "a"), at(3, 1, 0, "a")},
		"the number 0 twice":           {at(0, 1, 0, "a"), at(0, 2, 0, "a")},
		"the number 8":                 {at(8, 1, 0, "a")},
		"the number 8 behind others":   {at(0, 1, 0, "a"), at(7, 1, 0, "a"), at(8, 1, 0, "a")},
		"nine fields":                  fields(9),
		"a number below 0":             {at(-1, 1, 0, "a")},
		"the greatest number":          {at(math.MaxInt, 1, 0, "a")},
		"the least number":             {at(math.MinInt, 1, 0, "a")},
		"a zero field":                 {{}},
		"a cell of a zero stamp":       {at(2, 0, 0, "a")},
		"a cell of no time":            {at(2, 0, 1, "a")},
		"a cell of a time below 0":     {at(2, -1, 1, "a")},
		"a cell above the greatest":    {at(2, maxN+1, 1, "a")},
		"a cell by the replica 8":      {at(2, 1, 8, "a")},
		"a cell by a replica below 0":  {at(2, 1, -1, "a")},
		"a cell of 201 bytes":          {at(2, 1, 0, scattered(maxVal+1))},
		"a cell of many bytes, behind": {at(2, 1, 0, "a"), at(3, 1, 0, scattered(70000))},
	}
}

// badDeads are stamps that may not be.
func badDeads() []api.Stamp {
	return []api.Stamp{by(0, 1), by(0, 7), by(0, -1), by(-1, 0), by(1, 8), by(1, -1), by(maxN+1, 0), by(math.MaxInt, math.MaxInt), by(math.MinInt, math.MinInt), by(0, math.MaxInt), by(math.MinInt, 0)}
}

// clone is a book that shares nothing with the other one.
func clone(b api.Book) api.Book {
	b.R = slices.Clone(b.R)
	for i, r := range b.R {
		b.R[i].F = slices.Clone(r.F)
	}
	return b
}

// anyBook is a book that may be, of some of so many names, and of few numbers, stamps and values, so that two of them often meet.
func anyBook(dice *rand.Rand, names int) api.Book {
	var b api.Book
	for id := range names {
		if dice.IntN(2) == 0 && len(b.R) < maxRecs {
			b.R = append(b.R, anyRec(dice, byte(id*20)))
		}
	}
	return b
}

func anyRec(dice *rand.Rand, id byte) api.Rec {
	for {
		r := live(id)
		if dice.IntN(2) == 0 {
			r.Dead = by(1+dice.IntN(3), dice.IntN(2))
		}
		for no := range 3 {
			if s := by(1+dice.IntN(4), dice.IntN(2)); dice.IntN(2) == 0 && lesser(r.Dead, s) {
				r.F = append(r.F, at(no*3, s.N, s.Rep, anyValue(dice)))
			}
		}
		if r.Dead != by(0, 0) || len(r.F) > 0 {
			return r
		}
	}
}

func anyValue(dice *rand.Rand) string {
	if l := byDigest(); dice.IntN(4) > 0 {
		return l[dice.IntN(len(l))]
	}
	return strings.Repeat("abcdefgh", dice.IntN(5))
}

// told is a book, a part or a manifest for a failure's text: it may be long.
func told(x any) string {
	s := fmt.Sprintf("%+v", x)
	return fmt.Sprintf("%.300s (%d)", s, len(s))
}
