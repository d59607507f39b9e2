package delta

import (
	"rolodex/api"
	"rolodex/wire"
)

// reader takes a piece's parts from the front of bytes, one behind the other. Where one is not there, nothing more is taken: so it need be asked only once, behind the last one.
type reader struct {
	rest []byte
	is   bool // all that was to be taken was there
}

func (r *reader) piece() api.Piece {
	take := r.text
	// The first byte is a number's as well: one below 128 is a byte, itself.
	if r.number(asCopy) == asCopy {
		take = r.copy
	}
	return take()
}

func (r *reader) copy() api.Piece {
	from := r.number(api.MaxVal)
	return api.Piece{Copy: true, From: from, Len: r.number(api.MaxVal)}
}

func (r *reader) text() api.Piece {
	s, many, is := wire.Read(r.rest, api.MaxVal)
	r.pass(many, is)
	return api.Piece{Lit: s}
}

// number is a number of at most most, 0 if there is none.
func (r *reader) number(most int) int {
	n, many, is := wire.Get(r.rest)
	// The number is held against most ahead of any conversion: it may be beyond every int.
	is = is && n <= uint64(most)
	r.pass(many, is)
	if !is {
		return 0
	}
	return int(n)
}

// pass goes on behind a part of many bytes, if that is there.
func (r *reader) pass(many int, is bool) {
	if !is {
		r.rest, r.is = nil, false
		return
	}
	r.rest = r.rest[many:]
}
