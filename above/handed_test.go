package above

import (
	"testing"

	"rolodex/api"
)

func killed(ids ...byte) api.Book {
	var b api.Book
	for _, id := range ids {
		b.R = append(b.R, api.Rec{ID: api.ID{id}, Dead: api.Stamp{N: int(id)}})
	}
	return b
}

func TestP14_2PartsAreHandedOnInOrder(t *testing.T) {
	known := api.Manifest{L: []api.Line{{ID: api.ID{4}, Dead: api.Stamp{N: 4}}}}
	var got []byte
	for part := range parts(killed(2, 4, 5, 9), known) {
		got = append(got, part.ID[0])
	}
	if string(got) != "\x02\x05\x09" {
		t.Errorf("handed on: %v", got)
	}
}

// One who has had enough is handed no more: to go on would be a panic.
func TestR1PartsEndWhereTheyAreLeft(t *testing.T) {
	for enough := range 4 {
		many := 0
		for range parts(killed(1, 2, 3, 4), api.Manifest{}) {
			if many == enough {
				break
			}
			many++
		}
		if many != enough {
			t.Errorf("left behind %d, and %d were handed on", enough, many)
		}
	}
}

func TestP14_3HalvesEndWhereTheyAreLeft(t *testing.T) {
	part := api.Rec{ID: api.ID{7}, Dead: api.Stamp{N: 3}, F: []api.Field{{No: 1, C: api.Cell{S: api.Stamp{N: 2}}}}}
	var all []api.Rec
	for half := range halves(part) {
		all = append(all, half)
	}
	if len(all) != 2 || all[0].Dead != part.Dead || len(all[0].F) != 0 || all[1].Dead != (api.Stamp{}) || len(all[1].F) != 1 || all[0].ID != part.ID || all[1].ID != part.ID {
		t.Errorf("the halves are %v", all)
	}
	for half := range halves(part) {
		if len(half.F) != 0 {
			t.Errorf("the fields stand first: %v", half)
		}
		break
	}
}
