package manic_test

import (
	"crypto/sha256"
	"fmt"
	"math"
	"math/rand/v2"
	"slices"
	"strings"

	"rolodex/api"
)

const (
	maxN    = 1 << 40
	maxRep  = 8
	maxNo   = 8
	maxRecs = 10
	maxVal  = 200
)

// lengths are those of values at which something of their blocks, or of their length's bytes, changes, and between.
func lengths() []int { return []int{0, 1, 7, 8, 16, 23, 24, 25, 31, 32, 127, 128, 199, 200} }

// scattered is many bytes of which no two neighbours hang on each other.
func scattered(many int) string {
	b := make([]byte, many)
	n := uint64(many)
	for i := range b {
		n = n*6364136223846793005 + 1442695040888963407
		b[i] = byte(n >> 56)
	}
	return string(b)
}

// by is a stamp.
func by(n, rep int) api.Stamp { return api.Stamp{N: n, Rep: rep} }

// at is a field of a number, written at n by a replica.
func at(no, n, rep int, v string) api.Field {
	return api.Field{No: no, C: api.Cell{S: by(n, rep), V: v}}
}

// live is a record of a name that never was dead.
func live(id byte, fields ...api.Field) api.Rec {
	return api.Rec{ID: api.ID{id}, F: fields}
}

// dead is a record of a name, dead since n by a replica.
func dead(id byte, n, rep int, fields ...api.Field) api.Rec {
	return api.Rec{ID: api.ID{id}, Dead: by(n, rep), F: fields}
}

func of(recs ...api.Rec) api.Book { return api.Book{R: recs} }

// span is a book of that many records, each with two fields.
func span(many int) api.Book {
	var b api.Book
	for id := range many {
		b.R = append(b.R, live(byte(id), at(id%4, id+1, id%maxRep, fmt.Sprint("v", id)), at(5, id+90, 1, scattered(id*9))))
	}
	return b
}

// fields is that many fields, by rising numbers.
func fields(many int) []api.Field {
	var all []api.Field
	for no := range many {
		all = append(all, at(no, no+3, no%maxRep, scattered(no*7)))
	}
	return all
}

// wide is a book with as much as there may be: each cell another value of 200 bytes.
func wide() api.Book {
	var b api.Book
	for id := range maxRecs {
		r := dead(byte(250-maxRecs+id), maxN-1, 7)
		for no := range maxNo {
			r.F = append(r.F, at(no, maxN, id%maxRep, fmt.Sprint(id, no)+scattered(maxVal-3)))
		}
		b.R = append(b.R, r)
	}
	return b
}

// goodBooks are books that may be, of many kinds.
func goodBooks() []api.Book {
	high := dead(255, maxN-1, 6, at(7, maxN, 7, "\xff\x00\xfe"))
	for i := range high.ID {
		high.ID[i] = 255 - byte(i)
	}
	l := []api.Book{
		{},
		of([]api.Rec{}...),
		of(live(0, at(0, 1, 0, ""))),
		of(live(0, at(0, 1, 0, "\x00"))),
		of(live(0, at(1, 1, 1, "a"), at(2, 1, 1, "a"))),
		of(dead(0, 1, 0)),
		of(dead(0, 1, 1, []api.Field{}...), dead(1, 1, 0)),
		of(dead(0, 1, 0, at(0, 1, 1, ""))),
		of(dead(7, 2, 3, at(2, 3, 4, scattered(24)), at(5, 2, 4, "x"))),
		of(dead(7, 15, 7, at(2, 16, 0, "x"), at(3, 2047, 7, "y"), at(4, 2048, 0, "z"))),
		of(live(1, fields(maxNo)...)),
		of(dead(1, 2, 7, fields(maxNo)...)),
		of(dead(1, maxN, 7)),
		of(high),
		of(dead(1, 5, 0), live(2, at(0, 3, 1, "a")), dead(3, 2, 2, at(1, 4, 0, "a"))),
		of(api.Rec{ID: api.ID{15: 1}, Dead: by(1, 0)}, api.Rec{ID: api.ID{15: 2}, Dead: by(1, 0)}),
		of(dead(127, 1, 0), dead(128, 1, 0)),
		of(live(1, at(0, 1, 0, strings.Repeat("abcdefgh", 9)+"abc"))),
		span(1),
		span(maxRecs - 1),
		span(maxRecs),
	}
	for _, many := range lengths() {
		l = append(l, of(live(9, at(3, 1, 0, scattered(many)))), of(live(9, at(3, 1, 0, strings.Repeat("\xff", many)))))
	}
	return append(l, wide())
}

// entry is what is known of a cell whose value is v, by the test's own words.
func entry(no int, s api.Stamp, v string) api.Entry {
	return api.Entry{No: no, S: s, Len: len(v), D: sha256.Sum256([]byte(v)), B: toldBlocks(v)}
}

// sized is an entry of a Len, with so many blocks, each another one.
func sized(no, length, blocks int) api.Entry {
	e := api.Entry{No: no, S: by(1, 0), Len: length, D: api.Digest{77, 31: 1}}
	for i := range blocks {
		e.B = append(e.B, api.Sig{Weak: uint32(i) * 0x01020304, Strong: api.Digest{byte(i), 31: 88}})
	}
	return e
}

// line is what is known of a record.
func line(id byte, dead api.Stamp, l ...api.Entry) api.Line {
	return api.Line{ID: api.ID{id}, Dead: dead, F: l}
}

func lines(l ...api.Line) api.Manifest {
	return api.Manifest{Base: api.Digest{1, 2, 3, 31: 4}, L: l}
}

// one is a manifest of one line, that of a record that never was dead.
func one(l ...api.Entry) api.Manifest { return lines(line(1, api.Stamp{}, l...)) }

// rising is that many lines, their names rising.
func rising(many int) []api.Line {
	var l []api.Line
	for id := range many {
		l = append(l, line(byte(id), by(id+1, 0)))
	}
	return l
}

// numbered is that many entries, their numbers rising.
func numbered(many int) []api.Entry {
	var l []api.Entry
	for no := range many {
		l = append(l, entry(no, by(no+1, 0), "a"))
	}
	return l
}

// goodManifests are manifests that may be: what is known of books, and others, whose digests and blocks are of no value.
func goodManifests() []api.Manifest {
	full := sized(7, 32, 4)
	full.B = slices.Repeat([]api.Sig{{Weak: math.MaxUint32, Strong: api.Digest(slices.Repeat([]byte{255}, 32))}}, 4)
	l := []api.Manifest{
		{},
		{L: []api.Line{}},
		{Base: api.Digest(slices.Repeat([]byte{255}, 32))},
		lines(),
		lines(rising(1)...),
		lines(rising(maxRecs)...),
		lines(line(0, by(1, 0), []api.Entry{}...)),
		one(numbered(maxNo)...),
		one(sized(0, 24, 3), sized(5, 200, 25)),
		one(full),
		lines(line(1, by(5, 3), entry(0, by(5, 4), "a"), entry(1, by(6, 0), "a"), entry(7, by(maxN, 7), scattered(40)))),
	}
	for _, b := range goodBooks() {
		l = append(l, toldOf(b))
	}
	return l
}

// ofEachLen are manifests that may be, of an entry each, one of each Len there may be.
func ofEachLen() []api.Manifest {
	var l []api.Manifest
	for length := range maxVal + 1 {
		blocks := len(toldBlocks(strings.Repeat("a", length)))
		l = append(l, one(sized(3, length, blocks)))
	}
	return l
}

// few are those of the good manifests whose bytes are not too many to be changed one by one.
func few() []api.Manifest {
	return slices.DeleteFunc(goodManifests(), func(m api.Manifest) bool { return len(body(m)) > 700 })
}

// bad is a manifest that may not be, why, and what Get tells of its bytes.
type bad struct {
	why string
	m   api.Manifest
	err api.Errno
}

// badManifests are such that bytes could tell them.
func badManifests() []bad {
	a, b := line(1, by(1, 0)), line(2, by(2, 0))
	nameOf := func(last byte) api.Line { return api.Line{ID: api.ID{15: last}, Dead: by(1, 0)} }
	l := []bad{
		{"eleven lines", lines(rising(11)...), api.ErrForm},
		{"many lines", lines(rising(200)...), api.ErrForm},
		{"eleven lines, the names falling", lines(append(rising(10), a)...), api.ErrForm},
		{"a zero line", lines(api.Line{}), api.ErrArg},
		{"a line without entries, never dead", lines(line(1, by(0, 0))), api.ErrArg},
		{"a last line without entries, never dead", lines(a, b, line(3, by(0, 0))), api.ErrArg},
		{"a tenth line without entries, never dead", lines(append(rising(9), line(99, by(0, 0)))...), api.ErrArg},
		{"names that fall", lines(b, a), api.ErrArg},
		{"names that fall at the last byte", lines(nameOf(2), nameOf(1)), api.ErrArg},
		{"names that fall from 128 to 127", lines(line(128, by(1, 0)), line(127, by(1, 0))), api.ErrArg},
		{"names that fall at the end", lines(a, line(4, by(1, 0)), line(3, by(1, 0))), api.ErrArg},
		{"a name twice", lines(a, line(1, by(0, 0), entry(0, by(1, 0), "a"))), api.ErrArg},
		{"a line twice", lines(a, b, b), api.ErrArg},
		{"a zero line twice", lines(api.Line{}, api.Line{}), api.ErrArg},
		{"nine entries", one(numbered(9)...), api.ErrForm},
		{"nine entries of one number", one(slices.Repeat(numbered(1), 9)...), api.ErrForm},
		{"many entries", one(numbered(200)...), api.ErrForm},
		{"the number 8", one(entry(8, by(1, 0), "a")), api.ErrArg},
		{"the number 8 behind the number 7", one(entry(7, by(1, 0), "a"), entry(8, by(1, 0), "a")), api.ErrArg},
		{"the number 9", one(sized(9, 24, 3)), api.ErrArg},
		{"the number 128", one(entry(128, by(1, 0), "a")), api.ErrArg},
		{"the number 255", one(entry(0, by(1, 0), "a"), entry(255, by(1, 0), "a")), api.ErrArg},
		{"numbers that fall", one(entry(1, by(1, 0), "a"), entry(0, by(1, 0), "a")), api.ErrArg},
		{"numbers that fall at the end", lines(a, line(2, by(0, 0), entry(0, by(1, 0), "a"), entry(6, by(1, 0), ""), entry(5, by(1, 0), "a"))), api.ErrArg},
		{"a number twice", one(entry(3, by(1, 0), "a"), entry(3, by(2, 0), "b")), api.ErrArg},
		{"the number 0 twice", one(entry(0, by(1, 0), "a"), entry(0, by(2, 0), "b")), api.ErrArg},
		{"a Len of 201", one(sized(0, 201, 25)), api.ErrForm},
		{"a Len of 201, without blocks", one(sized(0, 201, 0)), api.ErrForm},
		{"a Len of 208", one(sized(0, 208, 26)), api.ErrForm},
		{"a Len of 256", one(sized(0, 256, 0)), api.ErrForm},
		{"a Len of 256, and 32 blocks", one(sized(0, 256, 32)), api.ErrForm},
		{"a Len of 2^32", one(sized(0, 1<<32, 0)), api.ErrForm},
		{"a Len of 2^32 and 24", one(sized(0, 1<<32+24, 3)), api.ErrForm},
		{"a Len of 2^62", one(sized(0, 1<<62, 0)), api.ErrForm},
		{"the greatest Len", one(sized(0, math.MaxInt, 0)), api.ErrForm},
		{"an entry of a zero S", one(entry(0, by(0, 0), "a")), api.ErrArg},
		{"an entry of a zero S, and a Dead", lines(line(1, by(1, 0), entry(0, by(0, 0), "a"))), api.ErrArg},
		{"an entry that is dead", lines(line(1, by(4, 0), entry(0, by(4, 0), "a"))), api.ErrArg},
		{"an entry that is dead for long", lines(line(1, by(4, 0), entry(0, by(5, 0), "a"), entry(1, by(3, 7), "b"))), api.ErrArg},
		{"an entry that is dead by a greater replica", lines(line(1, by(4, 3), entry(0, by(4, 2), "a"))), api.ErrArg},
		{"an entry that is dead in the last line", lines(a, b, line(3, by(maxN, 7), entry(0, by(maxN, 7), "a"))), api.ErrArg},
		{"an S of no time", one(entry(0, by(0, 7), "a")), api.ErrForm},
		{"an S above the greatest", one(entry(0, by(maxN+1, 0), "a")), api.ErrForm},
		{"a Dead of no time", lines(line(1, by(0, 1))), api.ErrForm},
		{"a Dead of no time, with an entry", lines(line(1, by(0, 1), entry(0, by(1, 0), "a"))), api.ErrForm},
		{"a Dead above the greatest", lines(line(1, by(maxN+1, 0))), api.ErrForm},
		{"names that fall, and a Dead of no time", lines(b, line(1, by(0, 1))), api.ErrForm},
		{"a number twice, and a Len of 201", one(entry(3, by(1, 0), "a"), sized(3, 201, 25)), api.ErrForm},
	}
	return append(l, oddBlocks()...)
}

// oddBlocks are manifests with another number of blocks than Len tells, ahead of which and behind which nothing else is wrong.
func oddBlocks() []bad {
	var l []bad
	for _, x := range []struct{ length, blocks int }{
		{0, 1}, {7, 1}, {8, 1}, {16, 2}, {23, 1}, {23, 2}, {23, 3}, {24, 0}, {24, 2}, {24, 4}, {25, 2}, {25, 4}, {31, 4}, {32, 3}, {32, 5}, {199, 23}, {199, 25}, {200, 0}, {200, 24}, {200, 26},
	} {
		why := fmt.Sprintf("a Len of %d, and %d blocks", x.length, x.blocks)
		e := sized(3, x.length, x.blocks)
		l = append(l, bad{why, one(e), api.ErrForm})
		l = append(l, bad{why + ", behind others", lines(line(0, by(1, 0)), line(1, by(0, 0), entry(0, by(1, 0), "a"), entry(1, by(1, 0), scattered(30)), e)), api.ErrForm})
		l = append(l, bad{why + ", ahead of another", one(e, entry(7, by(9, 5), scattered(60))), api.ErrForm})
	}
	return l
}

// untold are manifests that may not be either, but of numbers that no bytes tell, or those of another one.
func untold() []bad {
	var l []bad
	for _, n := range []int{-1, -8, -256, math.MinInt, math.MinInt + 24, math.MaxInt, 256, 257, 1 << 32, 1<<32 + 1} {
		l = append(l, bad{why: "a number", m: one(entry(n, by(1, 0), "a"))})
		l = append(l, bad{why: "a Rep", m: one(entry(0, by(1, n), "a"))})
		l = append(l, bad{why: "a Rep of Dead", m: lines(line(1, by(1, n)))})
		l = append(l, bad{why: "all numbers", m: lines(line(1, by(n, n), api.Entry{No: n, S: by(n, n), Len: n}))})
		if n < 0 || n > maxN {
			l = append(l, bad{why: "an N", m: one(entry(0, by(n, 0), "a"))})
			l = append(l, bad{why: "an N of Dead", m: lines(line(1, by(n, 0)))})
		}
		if n < 0 {
			l = append(l, bad{why: "a Len", m: one(sized(0, n, 0))}, bad{why: "a Len, and blocks", m: one(sized(0, n, 3))})
		}
	}
	return append(l, bad{why: "a Rep of 8", m: one(entry(0, by(1, 8), "a"))}, bad{why: "a Rep of 8 of Dead", m: lines(line(1, by(1, 8)))})
}

// clone is a manifest that shares nothing with the other one.
func clone(m api.Manifest) api.Manifest {
	m.L = slices.Clone(m.L)
	for i, l := range m.L {
		m.L[i].F = slices.Clone(l.F)
		for j, e := range l.F {
			m.L[i].F[j].B = slices.Clone(e.B)
		}
	}
	return m
}

// told is a manifest for a failure's text: it may be long.
func told(m api.Manifest) string { return shown(fmt.Sprint(m)) }

func shown(s string) string { return fmt.Sprintf("%.300q (%d)", s, len(s)) }

// toldBlocks is the document's words for the blocks of a value, with the check by multiplying and the digest of Go's own library.
func toldBlocks(s string) []api.Sig {
	var l []api.Sig
	for at := range len(s) {
		if len(s) >= 24 && at%8 == 0 && at+8 <= len(s) {
			l = append(l, toldBlock(s[at:at+8]))
		}
	}
	return l
}

func toldBlock(part string) api.Sig {
	a, b := uint64(0), uint64(0)
	for i, x := range []byte(part) {
		a += uint64(x)
		b += uint64(len(part)-i) * uint64(x)
	}
	return api.Sig{Weak: uint32(b%65536*65536 + a%65536), Strong: sha256.Sum256([]byte(part))}
}

// toldOf is the document's words for what is known of a book that may be, but for Base, which is that of another one.
func toldOf(b api.Book) api.Manifest {
	m := api.Manifest{Base: sha256.Sum256([]byte(fmt.Sprint(b)))}
	for _, r := range b.R {
		l := api.Line{ID: r.ID, Dead: r.Dead}
		for _, f := range r.F {
			l.F = append(l.F, entry(f.No, f.C.S, f.C.V))
		}
		m.L = append(m.L, l)
	}
	return m
}

// anyBook is a book that may be, of few names, values and stamps, so that they come again.
func anyBook(dice *rand.Rand) api.Book {
	var b api.Book
	for id := range byte(12) {
		if dice.IntN(3) > 0 || len(b.R) == maxRecs {
			continue
		}
		r := live(id)
		if dice.IntN(2) == 0 {
			r.Dead = by(1+dice.IntN(3), dice.IntN(maxRep))
		}
		for no := range maxNo {
			if dice.IntN(4) == 0 || no == 7 && len(r.F) == 0 && r.Dead == by(0, 0) {
				r.F = append(r.F, at(no, 4+dice.IntN(3), dice.IntN(maxRep), anyValue(dice)))
			}
		}
		b.R = append(b.R, r)
	}
	return b
}

func anyValue(dice *rand.Rand) string {
	if dice.IntN(2) == 0 {
		return strings.Repeat("ab", dice.IntN(3))
	}
	return scattered(dice.IntN(maxVal + 1))
}
