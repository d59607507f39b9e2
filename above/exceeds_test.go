package above_test

import (
	"crypto/sha256"
	"math"
	"math/rand/v2"
	"slices"
	"testing"

	"rolodex/above"
	"rolodex/api"
)

func checkExceeds(t *testing.T, why string, c api.Cell, m api.Manifest, id byte, no int, want bool) {
	t.Helper()
	if got := above.Exceeds(c, m, api.ID{id}, no); got != want {
		t.Errorf("%s: Exceeds(%s, %s, %d, %d) is %t", why, told(c), told(m), id, no, got)
	}
}

// known is a manifest of three lines: 2 was never dead, 5 is since 4 by 3, and 9 has no entry.
func known() api.Manifest {
	return lines(
		line(2, by(0, 0), entry(1, by(3, 2), "abc"), entry(3, by(6, 1), scattered(40))),
		line(5, by(4, 3), entry(0, by(4, 4), "abc"), entry(6, by(7, 0), "")),
		line(9, by(4, 3)))
}

func TestP14_1TheSamplesDigestsRise(t *testing.T) {
	if !slices.IsSortedFunc(byDigest(), func(a, b string) int {
		x, y := sha256.Sum256([]byte(a)), sha256.Sum256([]byte(b))
		return slices.Compare(x[:], y[:])
	}) {
		t.Error("the samples' digests don't rise")
	}
}

// Without a line each cell of a stamp exceeds what is known: nothing is.
func TestP14_1NoLine(t *testing.T) {
	for _, m := range []api.Manifest{{}, {L: []api.Line{}}, {Base: sha256.Sum256([]byte("x"))}, known()} {
		for _, id := range []byte{0, 1, 3, 4, 6, 8, 10, 255} {
			for _, no := range []int{0, 1, 3, 7} {
				for _, v := range append(byDigest(), scattered(maxVal)) {
					checkExceeds(t, "no line", cellOf(1, 0, v), m, id, no, true)
					checkExceeds(t, "no line", cellOf(5, 3, v), m, id, no, true)
					checkExceeds(t, "no line", cellOf(maxN, 7, v), m, id, no, true)
					checkExceeds(t, "no line, and a zero stamp", cellOf(0, 0, v), m, id, no, false)
				}
			}
		}
	}
	// A name counts to its last byte.
	for _, id := range []api.ID{{2, 1}, {0: 2, 15: 1}, {15: 2}, {0: 5, 8: 5}} {
		if !above.Exceeds(cellOf(1, 0, "abc"), known(), id, 1) {
			t.Errorf("the name %x, that has no line, is not exceeded", id)
		}
	}
}

// Where there is a line and no entry Dead alone tells.
func TestP14_1NoEntry(t *testing.T) {
	for _, x := range []struct {
		why  string
		s    api.Stamp
		want bool
	}{
		{"Dead is less", by(5, 0), true},
		{"Dead is less by far", by(maxN, 7), true},
		{"Dead is less by its Rep", by(4, 4), true},
		{"Dead is the same", by(4, 3), false},
		{"Dead is greater by its Rep", by(4, 2), false},
		{"Dead is greater", by(3, 7), false},
		{"Dead is greater by far", by(1, 0), false},
		{"a zero stamp", by(0, 0), false},
	} {
		for _, v := range byDigest() {
			c := api.Cell{S: x.s, V: v}
			for _, no := range []int{1, 2, 5, 7} {
				checkExceeds(t, x.why, c, known(), 5, no, x.want)
			}
			for no := range maxNo {
				checkExceeds(t, x.why+", and no entries", c, known(), 9, no, x.want)
			}
		}
	}
	// A zero Dead is less than each stamp.
	for _, no := range []int{0, 2, 4, 7} {
		checkExceeds(t, "a zero Dead", cellOf(1, 0, ""), known(), 2, no, true)
		checkExceeds(t, "a zero Dead, and a zero stamp", cellOf(0, 0, ""), known(), 2, no, false)
	}
}

func TestP14_1AnEntry(t *testing.T) {
	for i, v := range byDigest() {
		for _, x := range []struct {
			why  string
			s    api.Stamp
			want bool
		}{
			{"S is less", by(4, 0), true},
			{"S is less by far", by(maxN, 7), true},
			{"S is less by its Rep", by(3, 3), true},
			{"S is the same", by(3, 2), i > 2},
			{"S is greater by its Rep", by(3, 1), false},
			{"S is greater", by(2, 7), false},
			{"S is greater by far", by(1, 0), false},
			{"a zero stamp", by(0, 0), false},
		} {
			checkExceeds(t, x.why, api.Cell{S: x.s, V: v}, known(), 2, 1, x.want)
		}
	}
}

// Of one stamp the digests tell: each of two values either way round.
func TestP14_1TheSameStamp(t *testing.T) {
	for i, is := range byDigest() {
		for j, v := range byDigest() {
			m := lines(line(7, by(1, 1), entry(4, by(3, 2), is)))
			checkExceeds(t, "what is known is of "+is, cellOf(3, 2, v), m, 7, 4, i < j)
		}
	}
}

// A digest is that of the value, all of it, and counts to its last byte; nothing else of an entry does.
func TestP14_1DigestsByABit(t *testing.T) {
	for _, v := range append(byDigest(), scattered(24), scattered(maxVal)) {
		e := entry(4, by(3, 2), v)
		for at := range e.D {
			for _, bit := range []byte{1, 128} {
				near := e
				near.D[at] ^= bit
				m := lines(line(7, by(0, 0), near))
				checkExceeds(t, "a digest that is near", cellOf(3, 2, v), m, 7, 4, raw(near.D) < raw(e.D))
			}
		}
		e.D = api.Digest{}
		checkExceeds(t, "the least digest", cellOf(3, 2, v), lines(line(7, by(0, 0), e)), 7, 4, true)
		e.D = api.Digest(slices.Repeat([]byte{255}, 32))
		checkExceeds(t, "the greatest digest", cellOf(3, 2, v), lines(line(7, by(0, 0), e)), 7, 4, false)
		for _, length := range []int{-1, 0, len(v) - 1, len(v) + 1, maxVal, math.MaxInt} {
			odd := entry(4, by(3, 2), v)
			odd.Len, odd.B = length, make([]api.Sig, 3)
			checkExceeds(t, "another Len", cellOf(3, 2, v), lines(line(7, by(0, 0), odd)), 7, 4, false)
		}
	}
}

// Dead counts ahead of the entry: here a manifest's that may not be, for else Dead is less than all S.
func TestP14_1DeadThoughTheEntryIsLess(t *testing.T) {
	for _, s := range []api.Stamp{by(1, 0), by(3, 0), by(5, 5), by(6, 0)} {
		m := lines(line(7, by(6, 2), entry(4, s, "abc")))
		for _, v := range byDigest() {
			checkExceeds(t, "dead since for long", cellOf(4, 0, v), m, 7, 4, false)
			checkExceeds(t, "dead by its Rep", cellOf(6, 1, v), m, 7, 4, false)
			checkExceeds(t, "dead just then", cellOf(6, 2, v), m, 7, 4, false)
			checkExceeds(t, "written then", cellOf(6, 3, v), m, 7, 4, true)
		}
	}
	// Dead alone would let it through, and the entry does not.
	m := lines(line(7, by(2, 0), entry(4, by(6, 0), "abc")))
	checkExceeds(t, "behind Dead, ahead of the entry", cellOf(4, 0, ""), m, 7, 4, false)
}

func TestP14_1AZeroCell(t *testing.T) {
	zero := entry(1, by(0, 0), "x")
	for _, m := range []api.Manifest{{}, known(), lines(line(2, by(0, 0))), lines(line(2, by(0, 0), zero)), lines(api.Line{}), lines(line(2, by(0, 0), api.Entry{No: 1}))} {
		for _, id := range []byte{0, 2, 5, 9} {
			for no := range maxNo {
				checkExceeds(t, "a zero cell", api.Cell{}, m, id, no, false)
			}
		}
	}
}

func TestP14_1BeyondAllBounds(t *testing.T) {
	most := api.ID(slices.Repeat([]byte{255}, 16))
	for _, no := range edges() {
		for _, id := range []api.ID{most, {5}, {9}} {
			has := id == api.ID{5} && no == 0
			if got := above.Exceeds(cellOf(4, 4, "abc"), known(), id, no); got == has {
				t.Errorf("of %x, %d: Exceeds is %t", id, no, got)
			}
			if above.Exceeds(api.Cell{}, known(), id, no) {
				t.Errorf("of %x, %d: Exceeds of a zero cell is true", id, no)
			}
		}
		// A number that may not be is found all the same where it stands.
		m := lines(line(7, by(1, 0), entry(no, by(3, 0), "abc")))
		checkExceeds(t, "an entry of it, and the same", cellOf(3, 0, "abc"), m, 7, no, false)
		checkExceeds(t, "an entry of it, that is less", cellOf(3, 0, ""), m, 7, no, true)
		checkExceeds(t, "an entry of another one", cellOf(2, 0, "abc"), m, 7, no^1, true)
		// No stamp of a cell is bounded either.
		for _, k := range edges() {
			c := cellOf(no, k, "abc")
			if got := above.Exceeds(c, known(), api.ID{2}, 1); got != toldExceeds(c, known(), api.ID{2}, 1) {
				t.Errorf("Exceeds(%s) is %t", told(c), got)
			}
		}
	}
}

// No entry is another thing than a zero one: here Dead is less than no time at all.
func TestP14_1NoEntryIsNoZeroOne(t *testing.T) {
	m := lines(line(7, by(-5, 0), entry(4, by(0, 0), "abc")))
	for _, s := range []api.Stamp{by(-4, 0), by(-3, 0), by(0, -1), by(0, 0), by(0, 1)} {
		for _, v := range byDigest() {
			c := api.Cell{S: s, V: v}
			checkExceeds(t, "no entry", c, m, 7, 0, true)
			checkExceeds(t, "a zero entry", c, m, 7, 4, toldExceeds(c, m, api.ID{7}, 4))
		}
	}
	checkExceeds(t, "no entry, and dead then", cellOf(-5, 0, "x"), m, 7, 0, false)
}

// Of what stands twice the first one counts.
func TestP14_1WhatStandsTwice(t *testing.T) {
	low, high := entry(1, by(2, 0), "x"), entry(1, by(8, 0), "x")
	one := func(l ...api.Entry) api.Manifest { return lines(line(7, by(1, 0), l...)) }
	checkExceeds(t, "the first entry is less", cellOf(4, 0, "x"), one(low, high), 7, 1, true)
	checkExceeds(t, "the first entry is greater", cellOf(4, 0, "x"), one(high, low), 7, 1, false)
	checkExceeds(t, "behind another one", cellOf(4, 0, "x"), one(entry(5, by(2, 0), "x"), high, low), 7, 1, false)
	dead, lives := line(7, by(6, 0)), line(7, by(0, 0), high)
	checkExceeds(t, "the first line is dead", cellOf(9, 0, "x"), lines(dead, lives), 7, 1, true)
	checkExceeds(t, "the first line is dead since then", cellOf(6, 0, "x"), lines(dead, lives), 7, 1, false)
	checkExceeds(t, "the first line has an entry", cellOf(7, 0, "x"), lines(lives, dead), 7, 1, false)
	checkExceeds(t, "the first line is none", cellOf(7, 0, "x"), lines(line(7, by(0, 0)), lives, dead), 7, 1, true)
}

// Of many cells, and of what is known of books and of none.
func TestP14_1AsTold(t *testing.T) {
	dice := rand.New(rand.NewPCG(14, 1))
	many := map[bool]int{}
	for range 20000 {
		m := toldOf(anyBook(dice, 3))
		if len(m.L) > 1 && dice.IntN(4) == 0 {
			m.L[0], m.L[1].ID = m.L[1], m.L[0].ID
		}
		id, no := byte(dice.IntN(3)*20), dice.IntN(3)*3
		c := cellOf(dice.IntN(6), dice.IntN(2), anyValue(dice))
		want := toldExceeds(c, m, api.ID{id}, no)
		checkExceeds(t, "any cell", c, m, id, no, want)
		many[want]++
	}
	if many[true] < 1000 || many[false] < 1000 {
		t.Errorf("%v tells little", many)
	}
}
