package cell

import (
	"testing"

	"rolodex/api"
)

// No two texts of one digest are known, so what is asked behind the digests is seen only with these left out.
func oneDigest() [manyOrders]order {
	by := orders()
	by[1] = func(a, b api.Cell) bool { return false }
	return by
}

func TestP5_1LessOfOneDigestIsByBytes(t *testing.T) {
	s := api.Stamp{N: 3, Rep: 2}
	for _, x := range []struct{ low, high string }{
		{"", "a"},
		{"", "\x00"},
		{"a", "ab"},
		{"a", "a\x00"},
		{"ab", "b"},
		{"abz", "ac"},
		{"ac", "b"},
		{"Z", "a"},
		{"a", "\x80"},
		{"\x7f\xff", "\x80"},
		{"\xfe\xff", "\xff"},
		// Bytes are held against one another, not the signs that they spell.
		{"\uffff", "\xf0"},
		{"\xc3\xa9", "\xff"},
	} {
		low, high := api.Cell{S: s, V: x.low}, api.Cell{S: s, V: x.high}
		if !lessBy(oneDigest(), low, high) {
			t.Errorf("of one digest %q is not less than %q", x.low, x.high)
		}
		if lessBy(oneDigest(), high, low) {
			t.Errorf("of one digest %q is less than %q", x.high, x.low)
		}
	}
}

func TestP5_1TheStampIsAskedAheadOfTheBytes(t *testing.T) {
	low, high := api.Cell{S: api.Stamp{N: 3}, V: "z"}, api.Cell{S: api.Stamp{N: 4}, V: "a"}
	if !lessBy(oneDigest(), low, high) || lessBy(oneDigest(), high, low) {
		t.Error("of two stamps the values are asked")
	}
}

func TestP5_1NoOrderTellsACellFromItself(t *testing.T) {
	for _, c := range []api.Cell{{}, {V: "a"}, {S: api.Stamp{N: 3, Rep: 2}, V: "abc"}, {S: api.Stamp{N: -1, Rep: 9}, V: "\xff"}} {
		for i, less := range orders() {
			if less(c, c) {
				t.Errorf("order %d: %q is less than itself", i, c.V)
			}
		}
		if lessBy(orders(), c, c) {
			t.Errorf("%q is less than itself", c.V)
		}
	}
}
