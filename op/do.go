package op

import (
	"rolodex/above"
	"rolodex/api"
	"rolodex/book"
	"rolodex/delta"
	"rolodex/rec"
	"rolodex/sha"
)

// Do is a book behind what is done with it, or why it is not.
func Do(b api.Book, o api.Op) (api.Book, api.Errno) {
	if !book.May(b) || !May(o) {
		return api.Book{}, api.ErrArg
	}
	add := adds()[o.Kind]
	part, err := add(doing{b: b, o: o})
	if err != api.OK {
		return api.Book{}, err
	}
	return above.Add(b, part)
}

// doing is a book that may be, and what may be done with it.
type doing struct {
	b api.Book
	o api.Op
}

// adds is of each kind the part that it adds to a book.
func adds() [api.Kinds]func(doing) (api.Rec, api.Errno) {
	return [api.Kinds]func(doing) (api.Rec, api.Errno){
		api.Kill:  doing.kill,
		api.Set:   doing.set,
		api.Copy:  doing.copy,
		api.Delta: doing.delta,
	}
}

func (d doing) kill() (api.Rec, api.Errno) {
	return api.Rec{ID: d.o.ID, Dead: d.o.S}, api.OK
}

func (d doing) set() (api.Rec, api.Errno) {
	return d.part(d.o.V), api.OK
}

func (d doing) copy() (api.Rec, api.Errno) {
	v, is := d.value(d.o.From, d.o.FromNo)
	if !is {
		return api.Rec{}, api.ErrNone
	}
	return d.checked(v)
}

func (d doing) delta() (api.Rec, api.Errno) {
	base, is := d.value(d.o.ID, d.o.No)
	if !is {
		return api.Rec{}, api.ErrNone
	}
	v, is := delta.Apply(base, d.o.P)
	if !is {
		return api.Rec{}, api.ErrDigest
	}
	return d.checked(v)
}

// value is that of the book's cell of a name and a number.
func (d doing) value(id api.ID, no int) (string, bool) {
	// Where there is no record there is a zero one, which has no cells.
	r, _ := book.Find(d.b, id)
	c, is := rec.Find(r, no)
	return c.V, is
}

// checked is the part of a value that is worked out here, if it is the one that was meant.
func (d doing) checked(v string) (api.Rec, api.Errno) {
	if sha.Of(v) != d.o.D {
		return api.Rec{}, api.ErrDigest
	}
	return d.part(v), api.OK
}

// part is the one field, with a value.
func (d doing) part(v string) api.Rec {
	c := api.Cell{S: d.o.S, V: v}
	return api.Rec{ID: d.o.ID, F: []api.Field{{No: d.o.No, C: c}}}
}
