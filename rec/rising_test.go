package rec

import (
	"slices"
	"testing"

	"rolodex/api"
)

func fieldOf(no, n int) api.Field {
	return api.Field{No: no, C: api.Cell{S: api.Stamp{N: n}}}
}

// A map has another order each time it is gone through, so one time alone tells little.
func TestP6_2RisingWhateverTheOrderOfTheMap(t *testing.T) {
	for range 100 {
		byNo := gather([]api.Field{fieldOf(7, 1), fieldOf(0, 2), fieldOf(5, 3), fieldOf(2, 4), fieldOf(0, 9), fieldOf(5, 2)})
		var got []api.Field
		for no, c := range rising(byNo) {
			got = append(got, api.Field{No: no, C: c})
		}
		if want := []api.Field{fieldOf(0, 9), fieldOf(2, 4), fieldOf(5, 3), fieldOf(7, 1)}; !slices.Equal(got, want) {
			t.Fatalf("gone through: %v; want %v", got, want)
		}
	}
}

// One who has had enough is asked no more: to go on would be a panic.
func TestR1RisingEndsWhereItIsLeft(t *testing.T) {
	byNo := gather([]api.Field{fieldOf(1, 1), fieldOf(3, 2), fieldOf(6, 3)})
	for enough := range 3 {
		many := 0
		for range rising(byNo) {
			if many == enough {
				break
			}
			many++
		}
		if many != enough {
			t.Errorf("left behind %d, and %d were gone through", enough, many)
		}
	}
}
