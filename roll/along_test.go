package roll

import "testing"

// One who has had enough is asked no more: to go on would be a panic.
func TestR1AlongEndsWhereItIsLeft(t *testing.T) {
	s := "abcdefgh"
	for enough := range 6 {
		many := 0
		for range along(s, 3) {
			if many == enough {
				break
			}
			many++
		}
		if many != enough {
			t.Errorf("left behind %d, and %d were gone through", enough, many)
		}
	}
}

// What is gone through begins at the first place each time, be it left or not.
func TestP9_3AlongBeginsAnew(t *testing.T) {
	checks := along("abc", 2)
	for range checks {
		break
	}
	for range 2 {
		var got []uint32
		for sum := range checks {
			got = append(got, sum)
		}
		if len(got) != 2 || got[0] != 19136707 || got[1] != 19333317 {
			t.Errorf("gone through: %v", got)
		}
	}
}
