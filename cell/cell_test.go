package cell_test

import (
	"bytes"
	"crypto/sha256"
	"fmt"
	"math"
	"slices"
	"strings"
	"testing"

	"rolodex/api"
	"rolodex/cell"
	"rolodex/stamp"
	"rolodex/wire"
)

const (
	maxN   = 1 << 40
	maxVal = 200
)

func goodStamps() []api.Stamp {
	return []api.Stamp{
		{N: 1}, {N: 1, Rep: 7}, {N: 3, Rep: 2}, {N: 3, Rep: 3}, {N: 4}, {N: 15, Rep: 7}, {N: 16}, {N: maxN - 1, Rep: 7}, {N: maxN}, {N: maxN, Rep: 7},
	}
}

// badStamps is a zero one, of which there is no cell, and those that may not be.
func badStamps() []api.Stamp {
	return []api.Stamp{
		{}, {Rep: 1}, {Rep: 7}, {Rep: -1}, {N: -1}, {N: -1, Rep: 3}, {N: 1, Rep: 8}, {N: 1, Rep: -1}, {N: maxN, Rep: 8},
		{N: maxN + 1}, {N: maxN + 1, Rep: 7}, {N: 1<<61 + 1}, {N: math.MaxInt, Rep: math.MaxInt}, {N: math.MinInt, Rep: math.MinInt},
	}
}

// goodValues has, among all, values of which one begins by another, whose digests stand either way round.
func goodValues() []string {
	return []string{
		"", "a", "ab", "abc", "b", "c", "\x00", "\x00\x00", "\x80", "\xff\xfe", "h\u00e9llo", "\xc3\x28",
		strings.Repeat("x", 127), strings.Repeat("x", 128), strings.Repeat("x", maxVal-1), strings.Repeat("x", maxVal), strings.Repeat("\u00e9", maxVal/2),
	}
}

func badValues() []string {
	return []string{
		strings.Repeat("x", maxVal+1), strings.Repeat("x", maxVal+2), strings.Repeat("\u00e9", maxVal/2+1), strings.Repeat("\x00", 256), strings.Repeat("y", 100000),
	}
}

func cellsOf(stamps []api.Stamp, values []string) []api.Cell {
	var all []api.Cell
	for _, s := range stamps {
		for _, v := range values {
			all = append(all, api.Cell{S: s, V: v})
		}
	}
	return all
}

func goodCells() []api.Cell { return cellsOf(goodStamps(), goodValues()) }

func badCells() []api.Cell {
	all := cellsOf(badStamps(), append(goodValues(), badValues()...))
	return append(all, cellsOf(goodStamps(), badValues())...)
}

// told is a cell for a failure's text: its value may be long, and no text.
func told(c api.Cell) string {
	return fmt.Sprintf("%d by %d %.60q", c.S.N, c.S.Rep, c.V)
}

// digestLess is by the library's own digests, so that it shares nothing with what is tested.
func digestLess(v, w string) bool {
	a, b := sha256.Sum256([]byte(v)), sha256.Sum256([]byte(w))
	return bytes.Compare(a[:], b[:]) < 0
}

func TestP5_1May(t *testing.T) {
	for _, c := range goodCells() {
		if !cell.May(c) {
			t.Errorf("May(%s) is false", told(c))
		}
	}
	for _, c := range badCells() {
		if cell.May(c) {
			t.Errorf("May(%s) is true", told(c))
		}
	}
}

func TestP5_1MayAtTheEdges(t *testing.T) {
	for _, x := range []struct {
		s    api.Stamp
		many int
		want bool
	}{
		{api.Stamp{}, 0, false},
		{api.Stamp{}, 3, false},
		{api.Stamp{}, 200, false},
		{api.Stamp{Rep: 1}, 0, false},
		{api.Stamp{N: 1, Rep: 8}, 0, false},
		{api.Stamp{N: maxN + 1}, 0, false},
		{api.Stamp{N: 1}, 0, true},
		{api.Stamp{N: 1}, 199, true},
		{api.Stamp{N: 1}, 200, true},
		{api.Stamp{N: 1}, 201, false},
		{api.Stamp{N: maxN, Rep: 7}, 0, true},
		{api.Stamp{N: maxN, Rep: 7}, 200, true},
		{api.Stamp{N: maxN, Rep: 7}, 201, false},
	} {
		c := api.Cell{S: x.s, V: strings.Repeat("a", x.many)}
		if got := cell.May(c); got != x.want {
			t.Errorf("May of %v and %d bytes is %t", x.s, x.many, got)
		}
	}
}

func checkLess(t *testing.T, low, high api.Cell) {
	t.Helper()
	if !cell.Less(low, high) {
		t.Errorf("Less(%s, %s) is false", told(low), told(high))
	}
	if cell.Less(high, low) {
		t.Errorf("Less(%s, %s) is true", told(high), told(low))
	}
	if got := cell.Join(low, high); got != high {
		t.Errorf("Join(%s, %s) = %s", told(low), told(high), told(got))
	}
	if got := cell.Join(high, low); got != high {
		t.Errorf("Join(%s, %s) = %s", told(high), told(low), told(got))
	}
}

func TestP5_1LessAtAnotherStamp(t *testing.T) {
	for _, x := range []struct{ low, high api.Stamp }{
		{api.Stamp{N: 3, Rep: 2}, api.Stamp{N: 4, Rep: 2}},
		{api.Stamp{N: 3, Rep: 7}, api.Stamp{N: 4}},
		{api.Stamp{N: 3, Rep: 2}, api.Stamp{N: 3, Rep: 3}},
		{api.Stamp{N: 1}, api.Stamp{N: maxN}},
		{api.Stamp{N: maxN}, api.Stamp{N: maxN, Rep: 7}},
	} {
		for _, v := range goodValues() {
			for _, w := range goodValues() {
				checkLess(t, api.Cell{S: x.low, V: v}, api.Cell{S: x.high, V: w})
			}
		}
	}
}

func TestP5_1LessAtOneStampIsByDigest(t *testing.T) {
	along, across := 0, 0
	for _, s := range goodStamps() {
		for _, v := range goodValues() {
			for _, w := range goodValues() {
				if !digestLess(v, w) {
					continue
				}
				checkLess(t, api.Cell{S: s, V: v}, api.Cell{S: s, V: w})
				if v < w {
					along++
				} else {
					across++
				}
			}
		}
	}
	if along == 0 || across == 0 {
		t.Errorf("%d pairs whose values stand as their digests do, %d that don't: both are to be tried", along, across)
	}
}

// The digests of these begin by 227 (nothing), 202 (a), 186 (abc), 62 (b) and 46 (c).
func TestP5_1LessExamples(t *testing.T) {
	s := api.Stamp{N: 3, Rep: 2}
	rising := []string{"c", "b", "abc", "a", ""}
	for i, v := range rising {
		for _, w := range rising[i+1:] {
			checkLess(t, api.Cell{S: s, V: v}, api.Cell{S: s, V: w})
		}
	}
}

// Less and Join ask nothing of whether a cell may be.
func TestP5_1LessAndJoinOfWhatMayNotBe(t *testing.T) {
	long := strings.Repeat("y", 100000)
	for _, x := range []struct{ low, high api.Cell }{
		{api.Cell{}, api.Cell{S: api.Stamp{N: 1}}},
		{api.Cell{V: "abc"}, api.Cell{}},
		{api.Cell{S: api.Stamp{N: -1}, V: "a"}, api.Cell{}},
		{api.Cell{S: api.Stamp{N: math.MinInt}}, api.Cell{S: api.Stamp{N: math.MaxInt}}},
		{api.Cell{S: api.Stamp{N: 3, Rep: 7}, V: "a"}, api.Cell{S: api.Stamp{N: 3, Rep: 8}, V: "b"}},
		{api.Cell{S: api.Stamp{N: maxN + 1}, V: "abc"}, api.Cell{S: api.Stamp{N: maxN + 1}}},
		{api.Cell{S: api.Stamp{N: 3}, V: long}, api.Cell{S: api.Stamp{N: 4}, V: "a"}},
		{api.Cell{S: api.Stamp{N: 3}, V: "a"}, api.Cell{S: api.Stamp{N: 4}, V: long}},
	} {
		checkLess(t, x.low, x.high)
	}
	low, high := long, long+"y"
	if digestLess(high, low) {
		low, high = high, low
	}
	checkLess(t, api.Cell{S: api.Stamp{N: 3}, V: low}, api.Cell{S: api.Stamp{N: 3}, V: high})
}

func TestP5_1ACellAndItself(t *testing.T) {
	for _, c := range append(goodCells(), badCells()...) {
		again := api.Cell{S: c.S, V: strings.Clone(c.V)}
		if cell.Less(c, again) {
			t.Errorf("Less(%s, the same) is true", told(c))
		}
	}
}

func TestP5_2PutExamples(t *testing.T) {
	for _, x := range []struct {
		c    api.Cell
		want string
	}{
		{api.Cell{S: api.Stamp{N: 3}, V: "abc"}, "\x18\x03abc"},
		{api.Cell{S: api.Stamp{N: 3, Rep: 2}, V: "ab"}, "\x1a\x02ab"},
		{api.Cell{S: api.Stamp{N: 1}}, "\x08\x00"},
		{api.Cell{S: api.Stamp{N: 1, Rep: 7}, V: "\x00"}, "\x0f\x01\x00"},
		{api.Cell{S: api.Stamp{N: 37, Rep: 4}, V: "\xff\xfe"}, "\x82\x2c\x02\xff\xfe"},
		{api.Cell{S: api.Stamp{N: 3}, V: strings.Repeat("a", 127)}, "\x18\x7f" + strings.Repeat("a", 127)},
		{api.Cell{S: api.Stamp{N: 3}, V: strings.Repeat("a", 128)}, "\x18\x81\x00" + strings.Repeat("a", 128)},
		{api.Cell{S: api.Stamp{N: 3}, V: strings.Repeat("a", 200)}, "\x18\x81\x48" + strings.Repeat("a", 200)},
		{api.Cell{S: api.Stamp{N: maxN, Rep: 7}, V: "z"}, "\x82\x80\x80\x80\x80\x80\x07\x01z"},
	} {
		if b, is := cell.Put(x.c); string(b) != x.want || !is {
			t.Errorf("Put(%s) = %q, %t; want %q", told(x.c), b, is, x.want)
		}
		if c, used, is := cell.Get([]byte(x.want)); c != x.c || used != len(x.want) || !is {
			t.Errorf("Get(%q) = %s, %d, %t; want %s", x.want, told(c), used, is, told(x.c))
		}
	}
}

func TestP5_2PutIsTheStampAndTheText(t *testing.T) {
	for _, c := range goodCells() {
		want, _ := stamp.Put(c.S)
		want = append(want, wire.Text(c.V)...)
		if b, is := cell.Put(c); !bytes.Equal(b, want) || !is {
			t.Errorf("Put(%s) = %v, %t; want %v", told(c), b, is, want)
		}
	}
}

func TestP5_2PutOfWhatMayNotBe(t *testing.T) {
	for _, c := range badCells() {
		if b, is := cell.Put(c); len(b) != 0 || is {
			t.Errorf("Put(%s) = %v, %t; want nothing and false", told(c), b, is)
		}
	}
}

func behinds() []string {
	return []string{"", "\x00", "z", "\x80", "\xff\xff\xff", "some more bytes", "\x18\x03abc"}
}

func TestP5_2WhatIsPutIsGot(t *testing.T) {
	for _, c := range goodCells() {
		b, _ := cell.Put(c)
		for _, behind := range behinds() {
			if got, used, is := cell.Get([]byte(string(b) + behind)); got != c || used != len(b) || !is {
				t.Errorf("Get(Put(%s) and %q) = %s, %d, %t", told(c), behind, told(got), used, is)
			}
		}
	}
}

func checkNone(t *testing.T, b []byte) {
	t.Helper()
	if c, used, is := cell.Get(b); c != (api.Cell{}) || used != 0 || is {
		t.Errorf("Get(%.60x) = %s, %d, %t; want noughts and false", b, told(c), used, is)
	}
}

// The bytes that a slice has room for, behind its length, are not its own.
func TestP5_2GetOfABeginning(t *testing.T) {
	checkNone(t, nil)
	checkNone(t, []byte{})
	for _, c := range goodCells() {
		b, _ := cell.Put(c)
		for many := range len(b) {
			checkNone(t, b[:many])
		}
	}
}

func TestP5_2GetOfNoCellsStamp(t *testing.T) {
	for _, head := range []string{
		"\x00", // a zero stamp
		"\x01", // stamps of N 0, and a replica
		"\x07",
		"\x80", // no numbers
		"\x80\x18",
		"\xff\xff\xff\xff\xff\xff\xff\xff\xff\x7f",
		"\x82\x80\x80\x80\x80\x80\x08", // N of one more than 2^40
		"\x81\xff\xff\xff\xff\xff\xff\xff\xff\x7f",
	} {
		for _, v := range []string{"", "a", "abc", strings.Repeat("a", 200)} {
			for _, behind := range behinds() {
				checkNone(t, []byte(head+string(wire.Text(v))+behind))
			}
		}
	}
}

func TestP5_2GetOfALongText(t *testing.T) {
	for _, v := range badValues() {
		for _, behind := range behinds() {
			checkNone(t, []byte("\x18"+string(wire.Text(v))+behind))
		}
	}
}

func TestP5_2GetOfNoText(t *testing.T) {
	for _, rest := range []string{
		"\x80",
		"\x80\x00",
		"\x80\x03abc",
		"\x80\x80\x03abc",
		"\x04abc",
		"\x81\x48abc",
		"\xff\xff\xff\xff\xff\xff\xff\xff\xff\x7fabc",
		"\x81\xff\xff\xff\xff\xff\xff\xff\xff\x7fabc",
		"\x81\x80\x80\x80\x80\x80\x80\x80\x80\x03abc",
		"\x90\x80\x80\x80\x03abc",
	} {
		checkNone(t, []byte("\x18"+rest))
	}
}

// checkAgain holds that bytes are a cell's if they begin by a stamp that is no zero one and a text that has room, and no other ones.
func checkAgain(t *testing.T, b []byte) {
	t.Helper()
	s, head, want := stamp.Get(b)
	v, many, text := wire.Read(b[head:], maxVal)
	want = want && text && s != (api.Stamp{})
	if !want {
		checkNone(t, b)
		return
	}
	c, used, is := cell.Get(b)
	if !is || used != head+many || c != (api.Cell{S: s, V: v}) {
		t.Fatalf("Get(% x) = %s, %d, %t", b, told(c), used, is)
	}
	if put, may := cell.Put(c); !may || !cell.May(c) || !bytes.Equal(b[:used], put) {
		t.Fatalf("Get(% x) = %s, %d: Put has %v, %t", b, told(c), used, put, may)
	}
}

func TestP5_2NoOtherBytesAreGot(t *testing.T) {
	checkAgain(t, nil)
	for one := range 256 {
		checkAgain(t, []byte{byte(one)})
		for two := range 256 {
			checkAgain(t, []byte{byte(one), byte(two)})
			checkAgain(t, []byte{byte(one), byte(two), 'a', 'b', 'c'})
			checkAgain(t, []byte{byte(one), 1, byte(two), 2, 'a'})
		}
	}
}

func FuzzAnyBytes(f *testing.F) {
	f.Add([]byte(nil))
	f.Add([]byte("\x18\x03abcz"))
	f.Add([]byte("\x00\x03abc"))
	f.Add([]byte("\x82\x80\x80\x80\x80\x80\x07\x01z"))
	f.Add([]byte("\x18\x81\x49" + strings.Repeat("a", 201)))
	f.Fuzz(func(t *testing.T, b []byte) {
		checkAgain(t, b)
	})
}

func lawCells() []api.Cell {
	all := cellsOf([]api.Stamp{{N: 1}, {N: 3, Rep: 2}, {N: 3, Rep: 3}, {N: maxN, Rep: 7}}, []string{"", "a", "abc", "b", "\xff\xfe", strings.Repeat("x", maxVal)})
	// The laws are of all cells, those that may not be among them.
	return append(all, api.Cell{}, api.Cell{V: "a"}, api.Cell{S: api.Stamp{N: -1, Rep: 9}, V: "b"}, api.Cell{S: api.Stamp{N: 3, Rep: 2}, V: strings.Repeat("x", maxVal+1)})
}

func TestP5_3JoinOfACellAndItself(t *testing.T) {
	for _, c := range append(goodCells(), badCells()...) {
		if got := cell.Join(c, c); got != c {
			t.Errorf("Join(%s, the same) = %s", told(c), told(got))
		}
	}
}

func TestP5_3JoinEitherWay(t *testing.T) {
	for _, a := range lawCells() {
		for _, b := range lawCells() {
			got := cell.Join(a, b)
			if other := cell.Join(b, a); got != other {
				t.Errorf("Join(%s, %s) = %s, the other way %s", told(a), told(b), told(got), told(other))
			}
			if got != a && got != b {
				t.Errorf("Join(%s, %s) = %s is neither one", told(a), told(b), told(got))
			}
			if cell.Less(got, a) || cell.Less(got, b) {
				t.Errorf("Join(%s, %s) = %s is less", told(a), told(b), told(got))
			}
		}
	}
}

func TestP5_3JoinOfThree(t *testing.T) {
	all := lawCells()
	for _, a := range all {
		for _, b := range all {
			for _, c := range all {
				first, last := cell.Join(cell.Join(a, b), c), cell.Join(a, cell.Join(b, c))
				if first != last {
					t.Errorf("%s, %s and %s joined: %s, or %s", told(a), told(b), told(c), told(first), told(last))
				}
			}
		}
	}
}

func TestP5_3OfOneStampTheGreaterDigestStays(t *testing.T) {
	for _, s := range goodStamps() {
		for _, v := range goodValues() {
			for _, w := range goodValues() {
				want := v
				if digestLess(v, w) {
					want = w
				}
				if got := cell.Join(api.Cell{S: s, V: v}, api.Cell{S: s, V: w}); got != (api.Cell{S: s, V: want}) {
					t.Errorf("of %v: Join of %q and %q = %s", s, v, w, told(got))
				}
			}
		}
	}
}

// With the least of them ahead all are in one order, whatever order they had.
func TestP5_3CellsHaveOneOrder(t *testing.T) {
	ahead := func(a, b api.Cell) int {
		switch {
		case cell.Less(a, b):
			return -1
		case cell.Less(b, a):
			return 1
		}
		return 0
	}
	one, other := goodCells(), goodCells()
	slices.Reverse(other)
	slices.SortFunc(one, ahead)
	slices.SortFunc(other, ahead)
	if !slices.Equal(one, other) {
		t.Error("two orders of the same cells")
	}
	for i := range len(one) - 1 {
		checkLess(t, one[i], one[i+1])
	}
}

func TestR3NothingIsShared(t *testing.T) {
	in := []byte("\x18\x03abcz")
	before := bytes.Clone(in)
	c, _, _ := cell.Get(in)
	if !bytes.Equal(in, before) {
		t.Errorf("what was handed in is % x now", in)
	}
	clear(in)
	if c != (api.Cell{S: api.Stamp{N: 3}, V: "abc"}) {
		t.Errorf("the cell that was got is %s now", told(c))
	}
	one, _ := cell.Put(c)
	clear(append(one, "more"...))
	clear(one)
	if two, _ := cell.Put(c); string(two) != "\x18\x03abc" || c.V != "abc" {
		t.Errorf("Put(%s) = %q behind a change to an answer", told(c), two)
	}
}

// An answer hangs on nothing that was asked before.
func TestR5AskedAgain(t *testing.T) {
	c := api.Cell{S: api.Stamp{N: 3, Rep: 2}, V: "abc"}
	first, _ := cell.Put(c)
	for _, other := range append(goodCells(), badCells()...) {
		cell.Join(c, other)
		cell.Put(other)
	}
	if again, _ := cell.Put(c); !bytes.Equal(again, first) {
		t.Errorf("Put = %v, asked again %v", first, again)
	}
	checkLess(t, c, api.Cell{S: c.S, V: "a"})
}
