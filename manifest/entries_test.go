package manifest

import (
	"slices"
	"testing"

	"rolodex/api"
)

func numbered(id byte, nos ...int) api.Line {
	l := api.Line{ID: api.ID{id}}
	for _, no := range nos {
		l.F = append(l.F, api.Entry{No: no})
	}
	return l
}

func TestP12_2EntriesInOrder(t *testing.T) {
	m := api.Manifest{L: []api.Line{numbered(4, 3, 1), numbered(2), numbered(9, 0), numbered(4, 7, 7)}}
	var got []place
	for id, e := range entries(m) {
		got = append(got, place{id, e.No})
	}
	if want := []place{{api.ID{4}, 3}, {api.ID{4}, 1}, {api.ID{9}, 0}, {api.ID{4}, 7}, {api.ID{4}, 7}}; !slices.Equal(got, want) {
		t.Errorf("gone through: %v; want %v", got, want)
	}
}

// One who has had enough is asked no more: to go on would be a panic.
func TestR1EntriesEndWhereTheyAreLeft(t *testing.T) {
	m := api.Manifest{L: []api.Line{numbered(1, 0, 1), numbered(2), numbered(3, 0, 5)}}
	for enough := range 4 {
		many := 0
		for range entries(m) {
			if many == enough {
				break
			}
			many++
		}
		if many != enough {
			t.Errorf("left behind %d, and %d were gone through", enough, many)
		}
	}
}
