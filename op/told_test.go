package op_test

import (
	"bytes"
	"crypto/sha256"
	"fmt"
	"maps"
	"math"
	"slices"
	"strings"

	"rolodex/api"
)

// What the chapter, and those below it, ask for, by the test's own words.

// lesser tells whether one stamp is less than another one.
func lesser(a, b api.Stamp) bool { return a.N < b.N || a.N == b.N && a.Rep < b.Rep }

// digest is a value's, as a text, so that one may be held against another.
func digest(v string) string {
	d := sha256.Sum256([]byte(v))
	return string(d[:])
}

func mayStamp(s api.Stamp) bool {
	return s == by(0, 0) || s.N > 0 && s.N <= maxN && s.Rep > -1 && s.Rep < maxRep
}

// mayFields tells whether fields may be those of a record dead since a stamp.
func mayFields(dead api.Stamp, l []api.Field) bool {
	is := true
	for i, f := range l {
		is = is && f.No > -1 && f.No < maxNo && (i == 0 || l[i-1].No < f.No)
		is = is && mayStamp(f.C.S) && lesser(dead, f.C.S) && len(f.C.V) <= maxVal
	}
	return is
}

func mayBook(b api.Book) bool {
	is := len(b.R) <= maxRecs
	for i, r := range b.R {
		is = is && (i == 0 || string(b.R[i-1].ID[:]) < string(r.ID[:]))
		is = is && mayStamp(r.Dead) && mayFields(r.Dead, r.F) && (r.Dead != by(0, 0) || len(r.F) > 0)
	}
	return is
}

// mayPieces tells whether pieces may be. No single Len or Lit beyond 200 is added to the others.
func mayPieces(l []api.Piece) bool {
	is, all := len(l) <= 60, 0
	for _, p := range l {
		one := p.From == 0 && p.Len == 0 && len(p.Lit) != 0 && len(p.Lit) < 201
		if p.Copy {
			one = p.Lit == "" && 0 <= p.From && p.From < 201 && 0 < p.Len && p.Len < 201
		}
		if one {
			all += len(p.Lit) + p.Len
		}
		is = is && one
	}
	return is && all < 201
}

// hasOne tells whether things of a kind have a part: n for No, v for V, f for From and FromNo, p for P, d for D.
func hasOne(kind int, part string) bool {
	return strings.Contains([]string{"", "nv", "nfd", "npd"}[kind], part)
}

func toldMay(o api.Op) bool {
	if o.Kind < 0 || o.Kind > 3 || !mayStamp(o.S) || o.S == by(0, 0) {
		return false
	}
	is := o.No >= 0 && o.No <= 7 && (hasOne(o.Kind, "n") || o.No == 0)
	is = is && len(o.V) <= maxVal && (hasOne(o.Kind, "v") || o.V == "")
	is = is && o.FromNo >= 0 && o.FromNo <= 7 && (hasOne(o.Kind, "f") || o.FromNo == 0)
	is = is && (hasOne(o.Kind, "f") || o.From == api.ID{})
	is = is && mayPieces(o.P) && (hasOne(o.Kind, "p") || len(o.P) == 0)
	return is && (hasOne(o.Kind, "d") || o.D == api.Digest{})
}

// toldPut is the bytes of something of a kind from 0 to 3, whether it may be done or not: what Get would get if it did not look.
func toldPut(o api.Op) []byte {
	b := append([]byte{byte(o.Kind)}, o.ID[:]...)
	b = append(b, toldNumber(uint64(o.S.N*8+o.S.Rep))...)
	switch o.Kind {
	case asSet:
		b = append(b, byte(o.No))
		b = append(b, toldText(o.V)...)
	case asCopy:
		b = append(b, byte(o.No))
		b = append(b, o.From[:]...)
		b = append(b, byte(o.FromNo))
		b = append(b, o.D[:]...)
	case asDelta:
		b = append(b, byte(o.No))
		b = append(b, toldPieces(o.P)...)
		b = append(b, o.D[:]...)
	}
	return b
}

func toldPieces(l []api.Piece) []byte {
	b := toldNumber(uint64(len(l)))
	for _, p := range l {
		if p.Copy {
			b = append(b, 1)
			b = append(b, toldNumber(uint64(p.From))...)
			b = append(b, toldNumber(uint64(p.Len))...)
			continue
		}
		b = append(b, 0)
		b = append(b, toldText(p.Lit)...)
	}
	return b
}

func toldText(s string) string { return string(toldNumber(uint64(len(s)))) + s }

// toldNumber is wire's Put by division.
func toldNumber(n uint64) []byte {
	b := []byte{byte(n % 128)}
	for n /= 128; n > 0; n /= 128 {
		b = slices.Insert(b, 0, byte(n%128)+128)
	}
	return b
}

// scan goes through bytes; short is that there were too few of them, or other ones.
type scan struct {
	b     []byte
	at    int
	short bool
}

func (s *scan) take(many uint64) []byte {
	if s.short || many > uint64(len(s.b)-s.at) {
		s.short = true
		return nil
	}
	s.at += int(many)
	return s.b[s.at-int(many) : s.at]
}

// one is a byte's number.
func (s *scan) one() int {
	n := -1
	for _, x := range s.take(1) {
		n = int(x)
	}
	return n
}

// number is one whose Put is there, of at most nine bytes: none that may be here has more.
func (s *scan) number() uint64 {
	from, n := s.at, uint64(0)
	for more := true; more; {
		x := s.one()
		more = x >= 128 && s.at-from < 9
		n = n*128 + uint64(max(x, 0)%128)
		s.short = s.short || x >= 128 && !more
	}
	if !s.short && !bytes.Equal(toldNumber(n), s.b[from:s.at]) {
		s.short = true
	}
	return n
}

func (s *scan) text() string { return string(s.take(s.number())) }

func (s *scan) pieces() []api.Piece {
	var l []api.Piece
	many := s.number()
	for ; many > 0 && !s.short && len(l) < 100; many-- {
		switch s.one() {
		case 0:
			l = append(l, text(s.text()))
		case 1:
			from := s.number()
			l = append(l, copied(small(from), small(s.number())))
		default:
			s.short = true
		}
	}
	return l
}

// small is a number as an int, be it beyond all that may be.
func small(n uint64) int { return int(min(n, math.MaxInt32)) }

// toldGet is what may be done by which b begins, and how many bytes it has.
func toldGet(b []byte) (api.Op, int, bool) {
	s := scan{b: b}
	o := api.Op{Kind: s.one()}
	copy(o.ID[:], s.take(16))
	n := s.number()
	o.S = by(int(n/8), int(n%8))
	if s.short || o.Kind > 3 {
		return api.Op{}, 0, false
	}
	if hasOne(o.Kind, "n") {
		o.No = s.one()
	}
	if hasOne(o.Kind, "v") {
		o.V = s.text()
	}
	if hasOne(o.Kind, "f") {
		copy(o.From[:], s.take(16))
		o.FromNo = s.one()
	}
	if hasOne(o.Kind, "p") {
		o.P = s.pieces()
	}
	if hasOne(o.Kind, "d") {
		copy(o.D[:], s.take(32))
	}
	if s.short || !toldMay(o) {
		return api.Op{}, 0, false
	}
	return o, s.at, true
}

// toldCell is a book's cell of a name and a number.
func toldCell(b api.Book, id api.ID, no int) (string, bool) {
	for _, r := range b.R {
		for _, f := range r.F {
			if r.ID == id && f.No == no {
				return f.C.V, true
			}
		}
	}
	return "", false
}

func toldValue(b api.Book, id api.ID, no int) string {
	v, _ := toldCell(b, id, no)
	return v
}

// toldApply is what pieces make of a value.
func toldApply(base string, l []api.Piece) (string, bool) {
	is, s := mayPieces(l), ""
	for _, p := range l {
		switch {
		case !is:
		case !p.Copy:
			s += p.Lit
		case p.From+p.Len > len(base):
			is = false
		default:
			s += base[p.From : p.From+p.Len]
		}
	}
	return s, is
}

func toldDo(b api.Book, o api.Op) (api.Book, api.Errno) {
	if !mayBook(b) || !toldMay(o) {
		return api.Book{}, api.ErrArg
	}
	v, is := o.V, true
	switch o.Kind {
	case asKill:
		return toldJoin(b, of(api.Rec{ID: o.ID, Dead: o.S}))
	case asCopy:
		v, is = toldCell(b, o.From, o.FromNo)
	case asDelta:
		v, is = toldCell(b, o.ID, o.No)
	}
	if !is {
		return api.Book{}, api.ErrNone
	}
	if o.Kind == asDelta {
		v, is = toldApply(v, o.P)
	}
	if !is || o.Kind != asSet && digest(v) != string(o.D[:]) {
		return api.Book{}, api.ErrDigest
	}
	return toldJoin(b, of(api.Rec{ID: o.ID, F: []api.Field{{No: o.No, C: api.Cell{S: o.S, V: v}}}}))
}

// toldJoin is two books that may be, gone through name by name and number by number.
func toldJoin(a, b api.Book) (api.Book, api.Errno) {
	names := map[string]bool{}
	for _, r := range slices.Concat(a.R, b.R) {
		names[string(r.ID[:])] = true
	}
	if len(names) > maxRecs {
		return api.Book{}, api.ErrLarge
	}
	var both api.Book
	for _, name := range slices.Sorted(maps.Keys(names)) {
		r := api.Rec{ID: api.ID([]byte(name))}
		var all []api.Field
		for _, other := range slices.Concat(a.R, b.R) {
			if other.ID == r.ID {
				all = append(all, other.F...)
				if lesser(r.Dead, other.Dead) {
					r.Dead = other.Dead
				}
			}
		}
		r.F = greatest(r.Dead, all)
		both.R = append(both.R, r)
	}
	return both, api.OK
}

// greatest are of all fields the greatest one of each number, if it is greater than a stamp.
func greatest(dead api.Stamp, all []api.Field) []api.Field {
	var l []api.Field
	for no := range maxNo {
		found := api.Cell{S: dead}
		is := false
		for _, f := range all {
			if f.No == no && lesser(dead, f.C.S) && (!is || lesserCell(found, f.C)) {
				found, is = f.C, true
			}
		}
		if is {
			l = append(l, api.Field{No: no, C: found})
		}
	}
	return l
}

func lesserCell(a, b api.Cell) bool {
	return lesser(a.S, b.S) || a.S == b.S && digest(a.V) < digest(b.V)
}

// spelt is all of some records as a text: an empty list is as one that is nil.
func spelt(l []api.Rec) string {
	var s strings.Builder
	for _, r := range l {
		fmt.Fprintf(&s, "%x,%d,%d/%d:", r.ID, r.Dead.N, r.Dead.Rep, len(r.F))
		for _, f := range r.F {
			fmt.Fprintf(&s, "%d,%d,%d,%q;", f.No, f.C.S.N, f.C.S.Rep, f.C.V)
		}
	}
	return s.String()
}

// speltOp is all of something that is done as a text: an empty list is as one that is nil.
func speltOp(o api.Op) string {
	var s strings.Builder
	fmt.Fprintf(&s, "%d,%x,%d,%d,%d,%q,%x,%d,%x/%d:", o.Kind, o.ID, o.S.N, o.S.Rep, o.No, o.V, o.From, o.FromNo, o.D, len(o.P))
	for _, p := range o.P {
		fmt.Fprintf(&s, "%t,%d,%d,%q;", p.Copy, p.From, p.Len, p.Lit)
	}
	return s.String()
}
