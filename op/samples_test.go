package op_test

import (
	"crypto/sha256"
	"fmt"
	"math"
	"math/rand/v2"
	"slices"
	"strings"

	"rolodex/api"
)

const (
	maxN    = 1 << 40
	maxRep  = 8
	maxNo   = 8
	maxRecs = 10
	maxVal  = 200
)

// What is done, by the chapter's numbers.
const (
	asKill  = 0
	asSet   = 1
	asCopy  = 2
	asDelta = 3
)

// byDigest are values by rising digests: they begin by 2d71, 3e23, ba78, ca97 and e3b0.
func byDigest() []string { return []string{"x", "b", "abc", "a", ""} }

// edges are numbers at which something may wrap around, or be of another kind.
func edges() []int {
	return []int{math.MinInt, math.MinInt + 1, -(1 << 32), -256, -1, 0, 1, 3, 4, 7, 8, 256, 1 << 31, 1 << 32, maxN, maxN + 1, math.MaxInt - 1, math.MaxInt}
}

// scattered is many bytes of which no two neighbours hang on each other.
func scattered(many int) string {
	b := make([]byte, many)
	n := uint64(many)
	for i := range b {
		n = n*6364136223846793005 + 1442695040888963407
		b[i] = byte(n >> 56)
	}
	return string(b)
}

// by is a stamp.
func by(n, rep int) api.Stamp { return api.Stamp{N: n, Rep: rep} }

// cellOf is a value, written at n by a replica.
func cellOf(n, rep int, v string) api.Cell { return api.Cell{S: by(n, rep), V: v} }

// at is a field of a number, written at n by a replica.
func at(no, n, rep int, v string) api.Field { return api.Field{No: no, C: cellOf(n, rep, v)} }

// live is a record of a name that never was dead.
func live(id byte, fields ...api.Field) api.Rec {
	return api.Rec{ID: api.ID{id}, F: fields}
}

// dead is a record of a name, dead since n by a replica.
func dead(id byte, n, rep int, fields ...api.Field) api.Rec {
	return api.Rec{ID: api.ID{id}, Dead: by(n, rep), F: fields}
}

func of(recs ...api.Rec) api.Book { return api.Book{R: recs} }

// span is a book of that many records, each with two fields.
func span(many int) api.Book {
	var b api.Book
	for id := range many {
		b.R = append(b.R, live(byte(id), at(id%4, id+1, id%maxRep, fmt.Sprint("v", id)), at(5, id+90, 1, scattered(id*9))))
	}
	return b
}

// fields is that many fields, by rising numbers.
func fields(many int) []api.Field {
	var all []api.Field
	for no := range many {
		all = append(all, at(no, no+3, no%maxRep, scattered(no*7)))
	}
	return all
}

// wide is a book with as much as there may be: each cell another value of 200 bytes.
func wide() api.Book {
	var b api.Book
	for id := range maxRecs {
		r := dead(byte(id*20), maxN-1, 7)
		for no := range maxNo {
			r.F = append(r.F, at(no, maxN, id%maxRep, fmt.Sprint(id, no)+scattered(maxVal-3)))
		}
		b.R = append(b.R, r)
	}
	return b
}

// goodBooks are books that may be, of many kinds.
func goodBooks() []api.Book {
	high := dead(255, maxN-1, 6, at(7, maxN, 7, "\xff\x00\xfe"))
	for i := range high.ID {
		high.ID[i] = 255 - byte(i)
	}
	return []api.Book{
		{},
		of([]api.Rec{}...),
		of(live(0, at(0, 1, 0, ""))),
		of(live(0, at(0, 1, 0, "a"), at(3, 1, 0, "a"))),
		of(live(0, at(0, 1, 1, "x")), live(1, at(0, 1, 0, "b"))),
		of(dead(0, 1, 0)),
		of(dead(0, 1, 1, []api.Field{}...), dead(1, 1, 0)),
		of(dead(0, 1, 0, at(0, 1, 1, "")), live(9, at(0, 3, 0, "x"))),
		of(dead(0, 2, 0, at(0, 2, 1, "b")), dead(9, 3, 0)),
		of(live(1, fields(maxNo)...)),
		of(dead(1, 2, 7, fields(maxNo)...)),
		of(dead(1, 6, 3, fields(maxNo)[4:]...)),
		of(dead(1, maxN, 7)),
		of(high),
		of(dead(1, 5, 1), dead(2, 3, 1, at(0, 4, 0, scattered(30))), dead(3, 2, 2, at(1, 4, 0, scattered(40)))),
		of(api.Rec{ID: api.ID{15: 1}, Dead: by(1, 0)}, api.Rec{ID: api.ID{15: 2}, Dead: by(1, 0)}),
		span(1),
		span(maxRecs - 1),
		span(maxRecs),
		wide(),
	}
}

// badBooks are books that may not be.
func badBooks() []api.Book {
	r, s := live(1, at(0, 1, 0, "a")), live(2, at(0, 2, 0, "b"))
	return []api.Book{
		of(api.Rec{}),
		of(live(1)),
		of(r, live(2)),
		of(s, r),
		of(r, r),
		of(r, live(1, at(1, 2, 0, "b"))),
		of(live(1, at(8, 1, 0, "a"))),
		of(live(1, at(-1, 1, 0, "a"))),
		of(live(1, at(1, 1, 0, ""), at(0, 1, 0, ""))),
		of(live(1, at(3, 1, 0, ""), at(3, 2, 0, ""))),
		of(live(1, fields(maxNo+1)...)),
		of(live(1, at(0, 0, 0, "a"))),
		of(live(1, at(0, maxN+1, 0, ""))),
		of(live(1, at(0, 1, 8, ""))),
		of(dead(1, 0, 1)),
		of(dead(1, maxN+1, 0)),
		of(dead(1, 4, 0, at(0, 4, 0, "a"))),
		of(dead(1, 4, 0, at(0, 5, 0, "a"), at(1, 3, 7, "b"))),
		of(live(1, at(0, 1, 0, scattered(maxVal+1)))),
		of(r, s, dead(3, 4, 0, at(0, 4, 0, ""))),
		span(maxRecs + 1),
		span(200),
		of(dead(1, math.MaxInt, math.MaxInt, at(math.MaxInt, math.MaxInt, math.MaxInt, ""))),
		of(live(1, at(math.MinInt, math.MinInt, math.MinInt, ""))),
	}
}

func copied(from, many int) api.Piece { return api.Piece{Copy: true, From: from, Len: many} }

func text(s string) api.Piece { return api.Piece{Lit: s} }

func list(l ...api.Piece) []api.Piece { return l }

// goodPieces are pieces that may be.
func goodPieces() [][]api.Piece {
	return [][]api.Piece{
		nil,
		{},
		list(text("a")),
		list(copied(0, 1)),
		list(copied(200, 200)),
		list(text(scattered(maxVal))),
		list(copied(0, 3), text("!")),
		list(text("!"), copied(0, 3)),
		list(copied(8, 100), text(scattered(100))),
		list(text("\x00\x80\xff"), copied(127, 127)),
		slices.Repeat(list(text("a")), 60),
		slices.Repeat(list(copied(3, 2), text("a")), 30),
	}
}

// badPieces are pieces that may not be.
func badPieces() [][]api.Piece {
	l := [][]api.Piece{
		{{}},
		list(text("a"), text("")),
		list(text(""), text("a")),
		list(text(scattered(maxVal + 1))),
		list(copied(0, 0)),
		list(copied(0, maxVal+1)),
		list(copied(maxVal+1, 1)),
		list(copied(-1, 1)),
		list(copied(1, -1)),
		{{Copy: true, Len: 1, Lit: "a"}},
		{{From: 1, Lit: "a"}},
		{{Len: 1, Lit: "a"}},
		slices.Repeat(list(text("a")), 61),
		list(copied(0, 100), text(scattered(101))),
		list(text(scattered(100)), copied(0, 101)),
		list(copied(0, math.MaxInt), copied(0, math.MaxInt), copied(0, 3)),
		slices.Repeat(list(text("a")), 500),
	}
	for _, n := range edges() {
		if n < 0 || n > maxVal {
			l = append(l, list(copied(n, 1)), list(copied(0, n)), list(copied(n, n)))
		}
	}
	return l
}

// kill is of a record, at n by a replica.
func kill(id byte, n, rep int) api.Op { return api.Op{Kind: asKill, ID: api.ID{id}, S: by(n, rep)} }

// set is of a field, at n by a replica.
func set(id byte, no, n, rep int, v string) api.Op {
	return api.Op{Kind: asSet, ID: api.ID{id}, S: by(n, rep), No: no, V: v}
}

// copyOf is of a field, at n by a replica, out of another one, whose value is to be v.
func copyOf(id byte, no, n, rep int, from byte, fromNo int, v string) api.Op {
	return api.Op{Kind: asCopy, ID: api.ID{id}, S: by(n, rep), No: no, From: api.ID{from}, FromNo: fromNo, D: sha256.Sum256([]byte(v))}
}

// deltaOf is of a field, at n by a replica, by pieces which are to make v.
func deltaOf(id byte, no, n, rep int, v string, l ...api.Piece) api.Op {
	return api.Op{Kind: asDelta, ID: api.ID{id}, S: by(n, rep), No: no, P: l, D: sha256.Sum256([]byte(v))}
}

// goodOps may be done, of all kinds.
func goodOps() []api.Op {
	high := copyOf(255, 7, maxN, 7, 255, 7, "high")
	for i := range high.ID {
		high.ID[i], high.From[i] = 255-byte(i), 128+byte(i)
	}
	l := []api.Op{
		high,
		kill(0, 1, 0), kill(7, 5, 0), kill(255, maxN, 7), {ID: api.ID{15: 1}, S: by(16, 3)},
		set(0, 0, 1, 0, ""), set(8, 1, 5, 0, "x"), set(8, 7, maxN, 7, "\x00\x80\xff"), set(1, 3, 15, 7, scattered(127)), set(1, 3, 16, 0, scattered(128)), set(9, 7, 300, 2, scattered(maxVal)),
		copyOf(0, 0, 1, 0, 0, 0, ""), copyOf(8, 1, 5, 0, 7, 2, "abc"), copyOf(8, 1, 5, 0, 8, 1, "itself"), copyOf(20, 7, maxN, 7, 40, 7, scattered(maxVal)),
		{Kind: asCopy, S: by(2, 2)}, {Kind: asDelta, S: by(2, 2)},
	}
	for i, p := range goodPieces() {
		l = append(l, deltaOf(byte(i), i%maxNo, 1+i*50, i%maxRep, fmt.Sprint(i), p...))
	}
	return l
}

// ofEach is of each kind one that may be done, each part that it has being set to something.
func ofEach() []api.Op {
	return []api.Op{kill(7, 5, 1), set(7, 2, 5, 1, "x"), copyOf(7, 2, 5, 1, 8, 3, "abc"), deltaOf(7, 2, 5, 1, "abc!", copied(0, 3), text("!"))}
}

// changed is o with something else in it.
func changed(o api.Op, change func(o *api.Op)) api.Op {
	o.P = slices.Clone(o.P)
	change(&o)
	return o
}

// setParts set a part that not each kind has to something that may be, and is no zero one.
func setParts() map[string]func(o *api.Op) {
	return map[string]func(o *api.Op){
		"No":                func(o *api.Op) { o.No = 1 },
		"No, the last one":  func(o *api.Op) { o.No = 7 },
		"V":                 func(o *api.Op) { o.V = "v" },
		"V, of a zero byte": func(o *api.Op) { o.V = "\x00" },
		"P, a text":         func(o *api.Op) { o.P = list(text("p")) },
		"P, a copy":         func(o *api.Op) { o.P = list(copied(0, 1)) },
		"From":              func(o *api.Op) { o.From = api.ID{9} },
		"From, the end":     func(o *api.Op) { o.From = api.ID{15: 1} },
		"FromNo":            func(o *api.Op) { o.FromNo = 1 },
		"FromNo, the last":  func(o *api.Op) { o.FromNo = 7 },
		"D":                 func(o *api.Op) { o.D = api.Digest{9} },
		"D, the end":        func(o *api.Op) { o.D = api.Digest{31: 1} },
		"V, and its digest": func(o *api.Op) { o.V, o.D = "v", sha256.Sum256([]byte("v")) },
		"From and FromNo":   func(o *api.Op) { o.From, o.FromNo = api.ID{9}, 2 },
		"all that there are": func(o *api.Op) {
			o.No, o.V, o.P, o.From, o.FromNo, o.D = 1, "v", list(text("p")), api.ID{9}, 1, api.Digest{9}
		},
	}
}

// spoilParts make of a part something that may not be, of whichever kind.
func spoilParts() map[string]func(o *api.Op) {
	l := map[string]func(o *api.Op){
		"V of 201 bytes":  func(o *api.Op) { o.V = scattered(maxVal + 1) },
		"V of many bytes": func(o *api.Op) { o.V = scattered(70000) },
	}
	for _, n := range edges() {
		if n < 0 || n > 3 {
			l[fmt.Sprint("Kind ", n)] = func(o *api.Op) { o.Kind = n }
		}
		if n < 0 || n > 7 {
			l[fmt.Sprint("No ", n)] = func(o *api.Op) { o.No = n }
			l[fmt.Sprint("FromNo ", n)] = func(o *api.Op) { o.FromNo = n }
		}
	}
	for _, s := range badStamps() {
		l[fmt.Sprint("S ", s)] = func(o *api.Op) { o.S = s }
	}
	for i, p := range badPieces() {
		l[fmt.Sprint("P ", i)] = func(o *api.Op) { o.P = p }
	}
	return l
}

// badStamps may not be one of what is done: also the zero one, which may be by itself.
func badStamps() []api.Stamp {
	return []api.Stamp{{}, by(0, 1), by(0, 7), by(0, -1), by(-1, 0), by(1, 8), by(1, -1), by(maxN+1, 0), by(math.MaxInt, math.MaxInt), by(math.MinInt, math.MinInt), by(0, math.MaxInt), by(math.MinInt, 0), by(1<<61, 1)}
}

// badOps may not be done, of all kinds, and why.
func badOps() map[string]api.Op {
	l := map[string]api.Op{"a zero one": {}, "all bytes": {Kind: -1, No: -1, FromNo: -1}}
	for _, o := range ofEach() {
		for why, set := range setParts() {
			if x := changed(o, set); !toldMay(x) {
				l[fmt.Sprint("kind ", o.Kind, ", with ", why)] = x
			}
		}
		for why, spoil := range spoilParts() {
			l[fmt.Sprint("kind ", o.Kind, ", ", why)] = changed(o, spoil)
		}
	}
	return l
}

// anyBook is a book that may be, of some of so many names, and of few numbers, stamps and values, so that two of them often meet.
func anyBook(dice *rand.Rand, names int) api.Book {
	var b api.Book
	for id := range names {
		if dice.IntN(2) == 0 && len(b.R) < maxRecs {
			b.R = append(b.R, anyRec(dice, byte(id*12)))
		}
	}
	return b
}

func anyRec(dice *rand.Rand, id byte) api.Rec {
	for {
		r := live(id)
		if dice.IntN(2) == 0 {
			r.Dead = by(1+dice.IntN(3), dice.IntN(2))
		}
		for no := range 3 {
			if s := by(1+dice.IntN(4), dice.IntN(2)); dice.IntN(2) == 0 && lesser(r.Dead, s) {
				r.F = append(r.F, at(no*3, s.N, s.Rep, anyValue(dice)))
			}
		}
		if r.Dead != by(0, 0) || len(r.F) > 0 {
			return r
		}
	}
}

func anyValue(dice *rand.Rand) string {
	if l := byDigest(); dice.IntN(4) > 0 {
		return l[dice.IntN(len(l))]
	}
	return strings.Repeat("abcdefgh", dice.IntN(5))
}

// anyOp may be done mostly, with a book of so many names, and often makes a value of the digest that it tells.
func anyOp(dice *rand.Rand, b api.Book, names int) api.Op {
	id, no, n, rep := byte(dice.IntN(names)*12), dice.IntN(3)*3, 1+dice.IntN(5), dice.IntN(2)
	from, fromNo := byte(dice.IntN(names)*12), dice.IntN(3)*3
	// Mostly of records that are there.
	if len(b.R) > 0 && dice.IntN(3) > 0 {
		from = b.R[dice.IntN(len(b.R))].ID[0]
		id = b.R[dice.IntN(len(b.R))].ID[0]
	}
	switch dice.IntN(4) {
	case asKill:
		return kill(id, n, rep)
	case asSet:
		return set(id, no, n, rep, anyValue(dice))
	case asCopy:
		return copyOf(id, no, n, rep, from, fromNo, mostly(dice, toldValue(b, api.ID{from}, fromNo)))
	}
	l := anyPieces(dice)
	v, _ := toldApply(toldValue(b, api.ID{id}, no), l)
	return deltaOf(id, no, n, rep, mostly(dice, v), l...)
}

func mostly(dice *rand.Rand, v string) string {
	if dice.IntN(8) == 0 {
		return anyValue(dice)
	}
	return v
}

// anyPieces are short, so that they often fit a value.
func anyPieces(dice *rand.Rand) []api.Piece {
	var l []api.Piece
	for range dice.IntN(4) {
		if dice.IntN(2) == 0 {
			l = append(l, copied(dice.IntN(3), dice.IntN(4)))
			continue
		}
		l = append(l, text(anyValue(dice)))
	}
	return l
}

// told is a book or what is done with it for a failure's text: it may be long.
func told(x any) string {
	s := fmt.Sprintf("%+v", x)
	return fmt.Sprintf("%.300s (%d)", s, len(s))
}
