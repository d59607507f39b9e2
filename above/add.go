package above

import (
	"iter"

	"rolodex/api"
	"rolodex/book"
	"rolodex/rec"
	"rolodex/stamp"
)

// Add is a book with a part more.
func Add(b api.Book, part api.Rec) (api.Book, api.Errno) {
	if !book.May(b) || !mayAdd(part) {
		return api.Book{}, api.ErrArg
	}
	both, err := b, api.OK
	for r := range halves(part) {
		both, err = book.Join(both, api.Book{R: []api.Rec{r}})
		if err != api.OK {
			return api.Book{}, err
		}
	}
	return both, api.OK
}

// mayAdd tells whether a part tells something, and that may be.
func mayAdd(part api.Rec) bool {
	if !hasAny(part) || !stamp.May(part.Dead) {
		return false
	}
	return len(part.F) == 0 || rec.May(fieldsOf(part))
}

// halves hands on the record that tells a part's Dead, and then the one that tells its fields, of those that there are.
// A part by itself may be no record: some of its fields may be no greater than its Dead.
func halves(part api.Rec) iter.Seq[api.Rec] {
	return func(yield func(api.Rec) bool) {
		if part.Dead != (api.Stamp{}) && !yield(api.Rec{ID: part.ID, Dead: part.Dead}) {
			return
		}
		if len(part.F) > 0 {
			yield(fieldsOf(part))
		}
	}
}

// fieldsOf is the record of a part's fields alone.
func fieldsOf(part api.Rec) api.Rec {
	return api.Rec{ID: part.ID, F: part.F}
}
