package op

import (
	"rolodex/api"
	"rolodex/delta"
	"rolodex/stamp"
	"rolodex/wire"
)

// reader takes what is done from the front of bytes, one part behind the other. Where one is not there, nothing more is taken: so it need be asked only once, behind the last one.
type reader struct {
	rest []byte
	is   bool // all that was to be taken was there
}

// op is taken by its kind, whatever that is. Whether it may be done is not asked here.
func (r *reader) op() api.Op {
	o := api.Op{Kind: r.number(), ID: r.id(), S: r.stamp()}
	has := had(o.Kind)
	if has.no {
		o.No = r.number()
	}
	if has.v {
		o.V = r.text()
	}
	if has.from {
		o.From = r.id()
		o.FromNo = r.number()
	}
	if has.p {
		o.P = r.pieces()
	}
	if has.d {
		r.fill(o.D[:])
	}
	return o
}

// number is one of a single byte.
func (r *reader) number() int {
	var b [1]byte
	r.fill(b[:])
	return int(b[0])
}

func (r *reader) id() api.ID {
	var id api.ID
	r.fill(id[:])
	return id
}

// fill takes as many bytes as to has.
func (r *reader) fill(to []byte) {
	many := copy(to, r.rest)
	r.pass(many, many == len(to))
}

func (r *reader) stamp() api.Stamp {
	s, many, is := stamp.Get(r.rest)
	r.pass(many, is)
	return s
}

func (r *reader) text() string {
	v, many, is := wire.Read(r.rest, api.MaxVal)
	r.pass(many, is)
	return v
}

func (r *reader) pieces() []api.Piece {
	p, many, is := delta.Get(r.rest)
	r.pass(many, is)
	return p
}

// pass goes on behind a part of many bytes, if that is there.
func (r *reader) pass(many int, is bool) {
	if !is {
		r.rest, r.is = nil, false
		return
	}
	r.rest = r.rest[many:]
}
