package manic

import (
	"rolodex/api"
	"rolodex/stamp"
	"rolodex/wire"
)

const wordBytes = 4 // as many as wire's Word has

// reader takes parts from the front of bytes, one behind the other. Where one is not there, nothing more is taken: so it need be asked only once, behind the last one.
type reader struct {
	rest []byte
	is   bool // all that was to be taken was there
}

// fill takes as many bytes as to has.
func (r *reader) fill(to []byte) {
	many := copy(to, r.rest)
	r.pass(many, many == len(to))
}

func (r *reader) digest() api.Digest {
	var d api.Digest
	r.fill(d[:])
	return d
}

// word is a number of four bytes.
func (r *reader) word() uint32 {
	var b [wordBytes]byte
	r.fill(b[:])
	n, _ := wire.Four(b[:])
	return n
}

// number is a number of at most most, 0 if there is none.
func (r *reader) number(most int) int {
	n, many, is := wire.Get(r.rest)
	// The number is held against most ahead of any conversion: it may be beyond every int.
	is = is && n <= uint64(most)
	r.pass(many, is)
	if !is {
		return 0
	}
	return int(n)
}

func (r *reader) stamp() api.Stamp {
	s, many, is := stamp.Get(r.rest)
	r.pass(many, is)
	return s
}

// pass goes on behind a part of many bytes, if that is there.
func (r *reader) pass(many int, is bool) {
	if !is {
		r.rest, r.is = nil, false
		return
	}
	r.rest = r.rest[many:]
}

// knownReader takes what is known of a book, by the parts that the reader within it takes. Whether that may be is not asked here: only numbers that tell how much is to be taken are held against their bounds.
type knownReader struct{ reader }

func (r *knownReader) manifest() api.Manifest {
	m := api.Manifest{Base: r.digest()}
	for range r.number(api.MaxRecs) {
		m.L = append(m.L, r.line())
	}
	return m
}

func (r *knownReader) line() api.Line {
	var l api.Line
	r.fill(l.ID[:])
	l.Dead = r.stamp()
	for range r.number(api.MaxNo) {
		l.F = append(l.F, r.entry())
	}
	return l
}

func (r *knownReader) entry() api.Entry {
	var no [1]byte
	r.fill(no[:])
	e := api.Entry{No: int(no[0]), S: r.stamp(), Len: r.number(api.MaxVal), D: r.digest()}
	for range blocksOf(e.Len) {
		e.B = append(e.B, r.block())
	}
	return e
}

func (r *knownReader) block() api.Sig {
	return api.Sig{Weak: r.word(), Strong: r.digest()}
}

// blocksOf is how many blocks a value of so many bytes has.
func blocksOf(many int) int {
	if many < api.MinLong {
		return 0
	}
	return many / api.Block
}
