package canon

import (
	"rolodex/api"
	"rolodex/cell"
	"rolodex/stamp"
	"rolodex/wire"
)

const noBook = "canon: bytes of no book"

// reader takes a book's parts from the front of bytes, one behind the other. Where the next part is not there it panics: so no part asks whether the ones ahead of it were.
type reader struct{ rest []byte }

// list takes how many parts there are, at most most, and these.
func list[T any](r *reader, most int, part func() T) []T {
	var l []T
	for range r.count(most) {
		l = append(l, part())
	}
	return l
}

func (r *reader) rec() api.Rec {
	id := r.id()
	dead := r.stamp()
	return api.Rec{ID: id, Dead: dead, F: list(r, api.MaxNo, r.field)}
}

func (r *reader) field() api.Field {
	no := r.no()
	return api.Field{No: no, C: r.cell()}
}

func (r *reader) id() api.ID {
	return api.ID(r.bytes(len(api.ID{})))
}

func (r *reader) no() int {
	return int(r.bytes(1)[0])
}

func (r *reader) count(most int) int {
	n, many, is := wire.Get(r.rest)
	r.pass(many, is)
	// The number is held against most ahead of any conversion: it may be beyond every int.
	r.need(n <= uint64(most))
	return int(n)
}

func (r *reader) stamp() api.Stamp {
	s, many, is := stamp.Get(r.rest)
	r.pass(many, is)
	return s
}

func (r *reader) cell() api.Cell {
	c, many, is := cell.Get(r.rest)
	r.pass(many, is)
	return c
}

func (r *reader) bytes(many int) []byte {
	b := r.rest
	r.pass(many, many <= len(b))
	return b[:many]
}

// pass goes on behind a part that is there, of many bytes.
func (r *reader) pass(many int, is bool) {
	r.need(is)
	r.rest = r.rest[many:]
}

func (r *reader) need(is bool) {
	if !is {
		panic(noBook)
	}
}
