package manifest

import (
	"iter"
	"slices"

	"rolodex/api"
)

// Line is what is known of a record.
func Line(m api.Manifest, id api.ID) (api.Line, bool) {
	l, is := lineIn(m, id)
	l.F = slices.Clone(l.F)
	for i, e := range l.F {
		l.F[i] = own(e)
	}
	return l, is
}

// lineIn is the first line of a name; its lists are still those of the manifest.
func lineIn(m api.Manifest, id api.ID) (api.Line, bool) {
	for _, l := range m.L {
		if l.ID == id {
			return l, true
		}
	}
	return api.Line{}, false
}

// own is the same entry with blocks of its own: an answer shares none with what was handed in.
func own(e api.Entry) api.Entry {
	e.B = slices.Clone(e.B)
	return e
}

// Find is what is known of a cell.
func Find(m api.Manifest, id api.ID, no int) (api.Entry, bool) {
	// Where there is no line there is a zero one, which has no entry.
	l, _ := lineIn(m, id)
	for _, e := range l.F {
		if e.No == no {
			return own(e), true
		}
	}
	return api.Entry{}, false
}

// Like is where the first cell is whose value has a digest, and so many bytes.
func Like(m api.Manifest, d api.Digest, n int) (api.ID, int, bool) {
	p, is := places(m)[value{digest: d, many: n}]
	return p.id, p.no, is
}

// value is what is known of a value, its blocks left out.
type value struct {
	digest api.Digest
	many   int
}

// place is where a cell is.
type place struct {
	id api.ID
	no int
}

// places are the values that are known, each with the place of the first cell that has it.
func places(m api.Manifest) map[value]place {
	first := map[value]place{}
	for id, e := range entries(m) {
		v := value{digest: e.D, many: e.Len}
		if _, is := first[v]; !is {
			first[v] = place{id: id, no: e.No}
		}
	}
	return first
}

// entries goes through all entries, line by line, in order, each with its line's name.
func entries(m api.Manifest) iter.Seq2[api.ID, api.Entry] {
	return func(yield func(api.ID, api.Entry) bool) {
		for _, l := range m.L {
			for _, e := range l.F {
				if !yield(l.ID, e) {
					return
				}
			}
		}
	}
}
