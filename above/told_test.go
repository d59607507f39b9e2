package above_test

import (
	"crypto/sha256"
	"fmt"
	"maps"
	"slices"
	"strings"

	"rolodex/api"
)

// What the chapter, and those below it, ask for, by the test's own words.

// lesser tells whether one stamp is less than another one.
func lesser(a, b api.Stamp) bool { return a.N < b.N || a.N == b.N && a.Rep < b.Rep }

// digest is a value's, as a text, so that one may be held against another.
func digest(v string) string { return raw(sha256.Sum256([]byte(v))) }

func raw(d api.Digest) string { return string(d[:]) }

func mayStamp(s api.Stamp) bool {
	return s == by(0, 0) || s.N > 0 && s.N <= maxN && s.Rep > -1 && s.Rep < maxRep
}

// mayFields tells whether fields may be those of a record dead since a stamp.
func mayFields(dead api.Stamp, l []api.Field) bool {
	is := true
	for i, f := range l {
		is = is && f.No > -1 && f.No < maxNo && (i == 0 || l[i-1].No < f.No)
		is = is && mayStamp(f.C.S) && lesser(dead, f.C.S) && len(f.C.V) <= maxVal
	}
	return is
}

func mayBook(b api.Book) bool {
	is := len(b.R) <= maxRecs
	for i, r := range b.R {
		is = is && (i == 0 || string(b.R[i-1].ID[:]) < string(r.ID[:]))
		is = is && mayStamp(r.Dead) && mayFields(r.Dead, r.F) && (r.Dead != by(0, 0) || len(r.F) > 0)
	}
	return is
}

func mayManifest(m api.Manifest) bool {
	is := len(m.L) <= maxRecs
	for i, l := range m.L {
		is = is && (i == 0 || string(m.L[i-1].ID[:]) < string(l.ID[:]))
		is = is && mayStamp(l.Dead) && (l.Dead != by(0, 0) || len(l.F) > 0)
		for j, e := range l.F {
			is = is && e.No > -1 && e.No < maxNo && (j == 0 || l.F[j-1].No < e.No)
			is = is && mayStamp(e.S) && lesser(l.Dead, e.S) && e.Len > -1 && e.Len <= maxVal
			is = is && len(e.B) == len(toldBlocks(strings.Repeat("a", max(0, min(e.Len, maxVal)))))
		}
	}
	return is
}

// toldLine is the first line of a name, gone to from the last one on; a zero one, if there is none.
func toldLine(m api.Manifest, id api.ID) api.Line {
	var found api.Line
	for _, l := range slices.Backward(m.L) {
		if l.ID == id {
			found = l
		}
	}
	return found
}

func toldExceeds(c api.Cell, m api.Manifest, id api.ID, no int) bool {
	l := toldLine(m, id)
	exceeds := true
	for _, e := range slices.Backward(l.F) {
		if e.No == no {
			exceeds = lesser(e.S, c.S) || e.S == c.S && raw(e.D) < digest(c.V)
		}
	}
	return exceeds && lesser(l.Dead, c.S)
}

func toldParts(a api.Book, m api.Manifest) []api.Rec {
	var all []api.Rec
	if !mayBook(a) || !mayManifest(m) {
		return nil
	}
	for _, r := range a.R {
		part := api.Rec{ID: r.ID}
		if lesser(toldLine(m, r.ID).Dead, r.Dead) {
			part.Dead = r.Dead
		}
		for _, f := range r.F {
			if toldExceeds(f.C, m, r.ID, f.No) {
				part.F = append(part.F, f)
			}
		}
		if part.Dead != by(0, 0) || len(part.F) > 0 {
			all = append(all, part)
		}
	}
	return all
}

// toldJoin is two books that may be, gone through name by name and number by number.
func toldJoin(a, b api.Book) (api.Book, api.Errno) {
	names := map[string]bool{}
	for _, r := range slices.Concat(a.R, b.R) {
		names[string(r.ID[:])] = true
	}
	if len(names) > maxRecs {
		return api.Book{}, api.ErrLarge
	}
	var both api.Book
	for _, name := range slices.Sorted(maps.Keys(names)) {
		r := api.Rec{ID: api.ID([]byte(name))}
		var all []api.Field
		for _, other := range slices.Concat(a.R, b.R) {
			if other.ID == r.ID {
				all = append(all, other.F...)
				if lesser(r.Dead, other.Dead) {
					r.Dead = other.Dead
				}
			}
		}
		r.F = greatest(r.Dead, all)
		both.R = append(both.R, r)
	}
	return both, api.OK
}

// greatest are of all fields the greatest one of each number, if it is greater than a stamp.
func greatest(dead api.Stamp, all []api.Field) []api.Field {
	var l []api.Field
	for no := range maxNo {
		found := api.Cell{S: dead}
		is := false
		for _, f := range all {
			if f.No == no && lesser(dead, f.C.S) && (!is || lesserCell(found, f.C)) {
				found, is = f.C, true
			}
		}
		if is {
			l = append(l, api.Field{No: no, C: found})
		}
	}
	return l
}

func lesserCell(a, b api.Cell) bool {
	return lesser(a.S, b.S) || a.S == b.S && digest(a.V) < digest(b.V)
}

func toldAdd(b api.Book, part api.Rec) (api.Book, api.Errno) {
	hasDead, hasFields := part.Dead != by(0, 0), len(part.F) > 0
	if !mayBook(b) || !hasDead && !hasFields || !mayFields(by(0, 0), part.F) || !mayStamp(part.Dead) {
		return api.Book{}, api.ErrArg
	}
	err := api.OK
	if hasDead {
		b, err = toldJoin(b, of(api.Rec{ID: part.ID, Dead: part.Dead}))
	}
	if hasFields && err == api.OK {
		b, err = toldJoin(b, of(api.Rec{ID: part.ID, F: part.F}))
	}
	return b, err
}

// toldOf is what is known of a book that may be, but for Base, which is that of another one.
func toldOf(b api.Book) api.Manifest {
	m := api.Manifest{Base: sha256.Sum256([]byte(spelt(b.R)))}
	for _, r := range b.R {
		l := api.Line{ID: r.ID, Dead: r.Dead}
		for _, f := range r.F {
			l.F = append(l.F, entry(f.No, f.C.S, f.C.V))
		}
		m.L = append(m.L, l)
	}
	return m
}

// toldBlocks are the blocks of a value.
func toldBlocks(s string) []api.Sig {
	var l []api.Sig
	for at := range len(s) {
		if len(s) >= 24 && at%8 == 0 && at+8 <= len(s) {
			a, b := uint64(0), uint64(0)
			for i, x := range []byte(s[at : at+8]) {
				a += uint64(x)
				b += uint64(8-i) * uint64(x)
			}
			l = append(l, api.Sig{Weak: uint32(b%65536*65536 + a%65536), Strong: sha256.Sum256([]byte(s[at : at+8]))})
		}
	}
	return l
}

// spelt is all of some records as a text: an empty list is as one that is nil.
func spelt(l []api.Rec) string {
	var s strings.Builder
	for _, r := range l {
		fmt.Fprintf(&s, "%x,%d,%d/%d:", r.ID, r.Dead.N, r.Dead.Rep, len(r.F))
		for _, f := range r.F {
			fmt.Fprintf(&s, "%d,%d,%d,%q;", f.No, f.C.S.N, f.C.S.Rep, f.C.V)
		}
	}
	return s.String()
}
