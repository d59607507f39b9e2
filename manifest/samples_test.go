package manifest_test

import (
	"crypto/sha256"
	"fmt"
	"math"
	"math/rand/v2"
	"slices"
	"strings"

	"rolodex/api"
)

const (
	maxN    = 1 << 40
	maxRep  = 8
	maxNo   = 8
	maxRecs = 10
	maxVal  = 200
)

// lengths are those of values at which something of their blocks changes, and between.
func lengths() []int { return []int{0, 1, 7, 8, 16, 23, 24, 25, 31, 32, 199, 200} }

// scattered is many bytes of which no two neighbours hang on each other.
func scattered(many int) string {
	b := make([]byte, many)
	n := uint64(many)
	for i := range b {
		n = n*6364136223846793005 + 1442695040888963407
		b[i] = byte(n >> 56)
	}
	return string(b)
}

// by is a stamp.
func by(n, rep int) api.Stamp { return api.Stamp{N: n, Rep: rep} }

// at is a field of a number, written at n by a replica.
func at(no, n, rep int, v string) api.Field {
	return api.Field{No: no, C: api.Cell{S: by(n, rep), V: v}}
}

// live is a record of a name that never was dead.
func live(id byte, fields ...api.Field) api.Rec {
	return api.Rec{ID: api.ID{id}, F: fields}
}

// dead is a record of a name, dead since n by a replica.
func dead(id byte, n, rep int, fields ...api.Field) api.Rec {
	return api.Rec{ID: api.ID{id}, Dead: by(n, rep), F: fields}
}

func of(recs ...api.Rec) api.Book { return api.Book{R: recs} }

// span is a book of that many records, each with two fields.
func span(many int) api.Book {
	var b api.Book
	for id := range many {
		b.R = append(b.R, live(byte(id), at(id%4, id+1, id%maxRep, fmt.Sprint("v", id)), at(5, id+90, 1, scattered(id*9))))
	}
	return b
}

// fields is that many fields, by rising numbers.
func fields(many int) []api.Field {
	var all []api.Field
	for no := range many {
		all = append(all, at(no, no+3, no%maxRep, scattered(no*7)))
	}
	return all
}

// wide is a book with as much as there may be: each cell another value of 200 bytes.
func wide() api.Book {
	var b api.Book
	for id := range maxRecs {
		r := dead(byte(250-maxRecs+id), 3, 7)
		for no := range maxNo {
			r.F = append(r.F, at(no, maxN, id%maxRep, fmt.Sprint(id, no)+scattered(maxVal-3)))
		}
		b.R = append(b.R, r)
	}
	return b
}

func goodBooks() []api.Book {
	high := dead(255, maxN-1, 6, at(7, maxN, 7, "\xff\x00\xfe"))
	for i := range high.ID {
		high.ID[i] = 255 - byte(i)
	}
	l := []api.Book{
		{},
		of([]api.Rec{}...),
		of(live(0, at(0, 1, 0, ""))),
		of(live(0, at(0, 1, 0, "\x00"))),
		of(live(0, at(1, 1, 1, "a"), at(2, 1, 1, "a"))),
		of(dead(0, 1, 0)),
		of(dead(0, 1, 1, []api.Field{}...), dead(1, 1, 0)),
		of(dead(0, 1, 0, at(0, 1, 1, ""))),
		of(dead(7, 2, 3, at(2, 3, 4, scattered(24)), at(5, 2, 4, "x"))),
		of(live(1, fields(maxNo)...)),
		of(dead(1, 2, 7, fields(maxNo)...)),
		of(dead(1, maxN, 7)),
		of(high),
		of(dead(1, 5, 0), live(2, at(0, 3, 1, "a")), dead(3, 2, 2, at(1, 4, 0, "a"))),
		of(api.Rec{ID: api.ID{15: 1}, Dead: by(1, 0)}, api.Rec{ID: api.ID{15: 2}, Dead: by(1, 0)}),
		of(dead(127, 1, 0), dead(128, 1, 0)),
		of(live(1, at(0, 1, 0, strings.Repeat("abcdefgh", 9)+"abc"))),
		span(1),
		span(maxRecs - 1),
		span(maxRecs),
		wide(),
	}
	for _, many := range lengths() {
		l = append(l, of(live(9, at(3, 1, 0, scattered(many)))), of(live(9, at(3, 1, 0, strings.Repeat("\xff", many)))))
	}
	return l
}

func badBooks() []api.Book {
	r, s := live(1, at(0, 1, 0, "a")), live(2, at(0, 2, 0, "b"))
	return []api.Book{
		of(api.Rec{}),
		of(r, live(2)),
		of(live(1)),
		of(s, r),
		of(r, r),
		of(r, live(1, at(1, 2, 0, "b"))),
		of(live(1, at(8, 1, 0, "a"))),
		of(live(1, at(-1, 1, 0, "a"))),
		of(live(1, at(1, 1, 0, ""), at(0, 1, 0, ""))),
		of(live(1, at(3, 1, 0, ""), at(3, 2, 0, ""))),
		of(live(1, fields(maxNo+1)...)),
		of(live(1, at(0, 0, 0, "a"))),
		of(live(1, at(0, maxN+1, 0, ""))),
		of(live(1, at(0, 1, 8, ""))),
		of(dead(1, 0, 1)),
		of(dead(1, maxN+1, 0)),
		of(dead(1, 4, 0, at(0, 4, 0, "a"))),
		of(dead(1, 4, 3, at(0, 4, 2, "a"))),
		of(dead(1, 4, 0, at(0, 5, 0, "a"), at(1, 3, 7, "b"))),
		of(live(1, at(0, 1, 0, scattered(maxVal+1)))),
		of(r, live(2, at(0, 1, 0, scattered(70000)))),
		of(r, s, dead(3, 4, 0, at(0, 4, 0, ""))),
		span(maxRecs + 1),
		span(200),
		of(dead(1, math.MaxInt, math.MaxInt, at(math.MaxInt, math.MaxInt, math.MaxInt, ""))),
		of(live(1, at(math.MinInt, math.MinInt, math.MinInt, ""))),
	}
}

// entry is what is known of a cell whose value is v, by the test's own words.
func entry(no int, s api.Stamp, v string) api.Entry {
	return api.Entry{No: no, S: s, Len: len(v), D: sha256.Sum256([]byte(v)), B: toldBlocks(v)}
}

// line is what is known of a record.
func line(id byte, dead api.Stamp, l ...api.Entry) api.Line {
	return api.Line{ID: api.ID{id}, Dead: dead, F: l}
}

func lines(l ...api.Line) api.Manifest {
	return api.Manifest{Base: api.Digest{1, 2, 3}, L: l}
}

// one is a manifest of one line, that of a record that never was dead.
func one(l ...api.Entry) api.Manifest { return lines(line(1, api.Stamp{}, l...)) }

// rising is that many lines, their names rising.
func rising(many int) []api.Line {
	var l []api.Line
	for id := range many {
		l = append(l, line(byte(id), by(id+1, 0)))
	}
	return l
}

// clone is a manifest that shares nothing with the other one.
func clone(m api.Manifest) api.Manifest {
	m.L = slices.Clone(m.L)
	for i, l := range m.L {
		m.L[i].F = slices.Clone(l.F)
		for j, e := range l.F {
			m.L[i].F[j].B = slices.Clone(e.B)
		}
	}
	return m
}

// told is a manifest for a failure's text: it may be long.
func told(m api.Manifest) string { return shown(fmt.Sprint(m)) }

func shown(s string) string { return fmt.Sprintf("%.300s (%d)", s, len(s)) }

// equal are two manifests part by part, by the test's own words.
func equal(a, b api.Manifest) bool { return spelt(a) == spelt(b) }

// spelt is all of a manifest as a text.
func spelt(m api.Manifest) string {
	var s strings.Builder
	fmt.Fprintf(&s, "%x/%d", m.Base, len(m.L))
	for _, l := range m.L {
		s.WriteString(speltLine(l))
	}
	return s.String()
}

func speltLine(l api.Line) string {
	var s strings.Builder
	fmt.Fprintf(&s, ";%x,%d,%d/%d", l.ID, l.Dead.N, l.Dead.Rep, len(l.F))
	for _, e := range l.F {
		s.WriteString(speltEntry(e))
	}
	return s.String()
}

func speltEntry(e api.Entry) string {
	var s strings.Builder
	fmt.Fprintf(&s, ":%d,%d,%d,%d,%x/%d", e.No, e.S.N, e.S.Rep, e.Len, e.D, len(e.B))
	for _, block := range e.B {
		fmt.Fprintf(&s, "+%d,%x", block.Weak, block.Strong)
	}
	return s.String()
}

// toldBlocks is the document's words for the blocks of a value, with the check by multiplying and the digest of Go's own library.
func toldBlocks(s string) []api.Sig {
	var l []api.Sig
	for at := range len(s) {
		if len(s) >= 24 && at%8 == 0 && at+8 <= len(s) {
			l = append(l, toldBlock(s[at:at+8]))
		}
	}
	return l
}

func toldBlock(part string) api.Sig {
	a, b := uint64(0), uint64(0)
	for i, x := range []byte(part) {
		a += uint64(x)
		b += uint64(len(part)-i) * uint64(x)
	}
	return api.Sig{Weak: uint32(b%65536*65536 + a%65536), Strong: sha256.Sum256([]byte(part))}
}

// toldOf is the chapter's words for what is known of a book that may be.
func toldOf(b api.Book) api.Manifest {
	m := api.Manifest{Base: sha256.Sum256([]byte(laid(b)))}
	for _, r := range b.R {
		l := api.Line{ID: r.ID, Dead: r.Dead}
		for _, f := range r.F {
			l.F = append(l.F, entry(f.No, f.C.S, f.C.V))
		}
		m.L = append(m.L, l)
	}
	return m
}

// number is n by groups of seven bits.
func number(n uint64) string {
	s := string([]byte{byte(n % 128)})
	for n /= 128; n > 0; n /= 128 {
		s = string([]byte{128 + byte(n%128)}) + s
	}
	return s
}

// laid is a book's bytes.
func laid(b api.Book) string {
	s := number(uint64(len(b.R)))
	for _, r := range b.R {
		s += string(r.ID[:]) + laidStamp(r.Dead) + number(uint64(len(r.F)))
		for _, f := range r.F {
			s += string([]byte{byte(f.No)}) + laidStamp(f.C.S) + number(uint64(len(f.C.V))) + f.C.V
		}
	}
	return s
}

func laidStamp(s api.Stamp) string { return number(uint64(8*s.N + s.Rep)) }

// toldMay is the chapter's words for a manifest that may be.
func toldMay(m api.Manifest) bool {
	is := len(m.L) <= 10
	for i, l := range m.L {
		is = is && (i == 0 || string(m.L[i-1].ID[:]) < string(l.ID[:]))
		is = is && toldStamp(l.Dead) && !(len(l.F) == 0 && l.Dead == by(0, 0))
		for j, e := range l.F {
			is = is && e.No > -1 && e.No < 8 && (j == 0 || l.F[j-1].No < e.No)
			is = is && toldStamp(e.S) && (l.Dead.N < e.S.N || l.Dead.N == e.S.N && l.Dead.Rep < e.S.Rep)
			is = is && e.Len > -1 && e.Len < 201 && len(e.B) == len(toldBlocks(strings.Repeat("a", max(0, min(e.Len, 201)))))
		}
	}
	return is
}

func toldStamp(s api.Stamp) bool {
	return s == by(0, 0) || s.N > 0 && s.N <= maxN && s.Rep > -1 && s.Rep < 8
}

// anyBook is a book that may be, of few names, values and stamps, so that they come again.
func anyBook(dice *rand.Rand) api.Book {
	var b api.Book
	for id := range byte(12) {
		if dice.IntN(2) == 0 || len(b.R) == maxRecs {
			continue
		}
		r := live(id)
		if dice.IntN(2) == 0 {
			r.Dead = by(1+dice.IntN(3), dice.IntN(maxRep))
		}
		for no := range maxNo {
			if dice.IntN(3) == 0 || no == 7 && len(r.F) == 0 && r.Dead == by(0, 0) {
				r.F = append(r.F, at(no, 4+dice.IntN(3), dice.IntN(maxRep), anyValue(dice)))
			}
		}
		b.R = append(b.R, r)
	}
	return b
}

func anyValue(dice *rand.Rand) string {
	if dice.IntN(2) == 0 {
		return strings.Repeat("ab", dice.IntN(3))
	}
	return scattered(dice.IntN(maxVal + 1))
}

// mayNotBe are manifests that may not be, beside those of the tests of May.
func mayNotBe() []api.Manifest {
	greatest, least := by(math.MaxInt, math.MaxInt), by(math.MinInt, math.MinInt)
	odd := []api.Entry{
		{}, {No: -1}, {No: 8, S: by(1, 0)}, {Len: -1}, {Len: math.MaxInt}, {Len: math.MinInt, No: math.MinInt}, {No: math.MaxInt, S: greatest, Len: 1 << 62}, {S: least},
		{S: by(1, 0), B: make([]api.Sig, 300)}, {S: by(1, 0), Len: 24}, {S: by(1, 0), Len: maxVal, B: make([]api.Sig, 24)}, {S: by(1, 0), Len: 1 << 62, B: make([]api.Sig, 25)},
	}
	l := []api.Manifest{
		lines(api.Line{}), lines(make([]api.Line, 10)...), lines(make([]api.Line, 1000)...), lines(rising(11)...), lines(rising(256)...),
		lines(line(1, greatest)), lines(line(1, least)), lines(line(1, by(-1, 0))), lines(line(1, by(math.MaxInt, 0), entry(0, greatest, "a"))),
		one(odd...), lines(line(2, by(1, 1), odd...), line(1, by(1, 1), odd...), line(2, greatest, odd...)),
		one(slices.Repeat([]api.Entry{entry(3, by(1, 1), "a")}, 1000)...), lines(slices.Repeat([]api.Line{line(3, by(1, 1), odd...)}, 20)...),
	}
	for _, e := range odd {
		l = append(l, one(e), one(entry(0, by(1, 0), "a"), e), one(e, entry(7, by(1, 0), "a")), lines(line(1, by(1, 0)), line(2, by(3, 0), e)))
	}
	return l
}
