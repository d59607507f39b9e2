package rec_test

import (
	"bytes"
	"crypto/sha256"
	"fmt"
	"math"
	"slices"
	"strings"
	"testing"

	"rolodex/api"
	"rolodex/rec"
)

const (
	maxN   = 1 << 40
	maxNo  = 8
	maxVal = 200
)

// at is a field of a number, written at n by a replica.
func at(no, n, rep int, v string) api.Field {
	return api.Field{No: no, C: api.Cell{S: api.Stamp{N: n, Rep: rep}, V: v}}
}

// made is a record of one name, dead since n by a replica.
func made(n, rep int, fields ...api.Field) api.Rec {
	return api.Rec{ID: api.ID{7}, Dead: api.Stamp{N: n, Rep: rep}, F: fields}
}

// clone is a record that shares nothing with r.
func clone(r api.Rec) api.Rec {
	r.F = slices.Clone(r.F)
	return r
}

// told is a record for a failure's text: its values may be long, and no texts.
func told(r api.Rec) string {
	s := fmt.Sprintf("{%x dead %d by %d:", r.ID[:2], r.Dead.N, r.Dead.Rep)
	for i, f := range r.F {
		if i == 12 {
			s += fmt.Sprintf(" and %d more", len(r.F)-i)
			break
		}
		s += fmt.Sprintf(" %d %d by %d %.20q", f.No, f.C.S.N, f.C.S.Rep, f.C.V)
	}
	return s + "}"
}

func eight(n int) []api.Field {
	var all []api.Field
	for no := range maxNo {
		all = append(all, at(no, n+no, no, fmt.Sprint("v", no)))
	}
	return all
}

func goodRecs() []api.Rec {
	return []api.Rec{
		made(1, 0),
		made(4, 3),
		made(maxN, 7),
		{Dead: api.Stamp{N: 2}, F: []api.Field{}},
		{F: []api.Field{at(0, 1, 0, "")}},
		made(0, 0, at(0, 1, 0, "")),
		made(0, 0, at(7, 1, 0, "a")),
		made(0, 0, at(3, maxN, 7, "a")),
		made(0, 0, at(3, 5, 2, strings.Repeat("x", maxVal))),
		made(0, 0, at(0, 9, 0, "a"), at(7, 1, 0, "a")),
		made(0, 0, eight(1)...),
		made(3, 2, at(1, 3, 3, "b")),
		made(3, 7, at(1, 4, 0, "b")),
		made(3, 2, eight(4)...),
		made(maxN-1, 7, at(2, maxN, 0, "b"), at(3, maxN, 7, "\xff\xfe")),
		made(maxN, 6, at(2, maxN, 7, "c")),
	}
}

// badRec is a record that may not be, and why.
type badRec struct {
	why string
	r   api.Rec
}

func badRecs() []badRec {
	return []badRec{
		{"nothing at all", api.Rec{}},
		{"no field, and a zero Dead", made(0, 0)},
		{"an empty list, and a zero Dead", api.Rec{ID: api.ID{7}, F: []api.Field{}}},
		{"Dead of 0 by 1", made(0, 1)},
		{"Dead of 0 by 1", made(0, 1, at(1, 3, 0, "a"))},
		{"Dead below 0", made(-1, 0)},
		{"Dead below 0", made(-1, 0, at(1, 3, 0, "a"))},
		{"Dead below 0", made(math.MinInt, 3, at(1, 3, 0, "a"))},
		{"Dead by 8", made(2, 8)},
		{"Dead by 8", made(2, 8, at(1, 3, 0, "a"))},
		{"Dead by -1", made(2, -1, at(1, 3, 0, "a"))},
		{"Dead above the greatest", made(maxN+1, 0)},
		{"Dead above the greatest", made(math.MaxInt, math.MaxInt)},
		{"a number twice", made(0, 0, at(2, 1, 0, ""), at(2, 2, 0, ""))},
		{"a field twice", made(0, 0, at(0, 1, 0, "a"), at(0, 1, 0, "a"))},
		{"a number twice at the end", made(0, 0, at(6, 1, 0, "a"), at(7, 1, 0, "a"), at(7, 1, 0, "a"))},
		{"numbers that fall", made(0, 0, at(3, 1, 0, ""), at(2, 1, 0, ""))},
		{"numbers that rise, and fall", made(1, 0, at(0, 2, 0, ""), at(5, 2, 0, ""), at(4, 2, 0, ""))},
		{"a number below 0", made(0, 0, at(-1, 1, 0, ""))},
		{"a number below 0, and others", made(0, 0, at(-1, 1, 0, ""), at(0, 1, 0, ""), at(1, 1, 0, ""))},
		{"the least number", made(0, 0, at(math.MinInt, 1, 0, ""))},
		{"the number 8", made(0, 0, at(8, 1, 0, ""))},
		{"the number 8, behind all others", made(0, 0, append(eight(1), at(8, 1, 0, ""))...)},
		{"the greatest number", made(0, 0, at(math.MaxInt, 1, 0, ""))},
		{"the greatest number, and the least one", made(0, 0, at(math.MaxInt, 1, 0, ""), at(math.MinInt, 1, 0, ""))},
		{"a cell of a zero stamp", made(0, 0, at(1, 0, 0, ""))},
		{"a cell of a stamp that may not be", made(0, 0, at(1, 0, 1, "a"))},
		{"a cell of a stamp that may not be", made(0, 0, at(1, 3, 8, "a"))},
		{"a cell of a stamp that may not be", made(0, 0, at(1, -3, 0, "a"))},
		{"a cell of a stamp that may not be", made(0, 0, at(1, maxN+1, 0, "a"))},
		{"a value that is too long", made(0, 0, at(1, 3, 0, strings.Repeat("x", maxVal+1)))},
		{"a value that is too long, the last one", made(1, 0, at(1, 3, 0, "a"), at(2, 3, 0, strings.Repeat("x", maxVal+1)))},
		{"a cell that may not be, the first one", made(1, 0, at(1, 3, 9, "a"), at(2, 3, 0, "b"))},
		{"a cell of the stamp Dead", made(2, 0, at(1, 2, 0, ""))},
		{"a cell of the stamp Dead", made(maxN, 7, at(1, maxN, 7, "a"))},
		{"a cell of less than Dead", made(4, 0, at(1, 3, 7, "a"))},
		{"a cell of less than Dead, by its replica", made(4, 3, at(1, 4, 2, "a"))},
		{"a cell of the stamp Dead, the last one", made(4, 3, at(1, 5, 0, "a"), at(6, 4, 3, "a"))},
		{"a cell of less than Dead, the first one", made(4, 3, at(1, 3, 0, "a"), at(6, 9, 0, "a"))},
		{"many fields", made(0, 0, slices.Repeat(eight(1), 5000)...)},
	}
}

func TestP6_1May(t *testing.T) {
	for _, r := range goodRecs() {
		if !rec.May(r) {
			t.Errorf("May(%s) is false", told(r))
		}
	}
	for _, x := range badRecs() {
		if rec.May(x.r) {
			t.Errorf("%s: May(%s) is true", x.why, told(x.r))
		}
	}
}

// A name is of any bytes.
func TestP6_1MayOfEveryName(t *testing.T) {
	for _, id := range []api.ID{{}, {1}, {15: 1}, api.ID(bytes.Repeat([]byte{255}, 16))} {
		for _, r := range goodRecs() {
			r.ID = id
			if !rec.May(r) {
				t.Errorf("May(%s) is false", told(r))
			}
		}
		for _, x := range badRecs() {
			x.r.ID = id
			if rec.May(x.r) {
				t.Errorf("%s: May(%s) is true", x.why, told(x.r))
			}
		}
	}
}

// Of each set of numbers, and each set of one number more, in their order and turned about.
func TestP6_1MayOfAllSetsOfNumbers(t *testing.T) {
	for set := 1; set < 1<<(maxNo+1); set++ {
		var fields []api.Field
		for no := range maxNo + 1 {
			if set>>no&1 == 1 {
				fields = append(fields, at(no, 1, 0, ""))
			}
		}
		want := set < 1<<maxNo
		if got := rec.May(made(0, 0, fields...)); got != want {
			t.Errorf("May of the numbers %b is %t", set, got)
		}
		slices.Reverse(fields)
		if got := rec.May(made(0, 0, fields...)); got != (want && len(fields) == 1) {
			t.Errorf("May of the numbers %b, turned about, is %t", set, got)
		}
	}
}

func checkSame(t *testing.T, why string, a, b api.Rec, want bool) {
	t.Helper()
	if got := rec.Same(a, b); got != want {
		t.Errorf("%s: Same(%s, %s) is %t", why, told(a), told(b), got)
	}
	if got := rec.Same(b, a); got != want {
		t.Errorf("%s: Same(%s, %s) is %t", why, told(b), told(a), got)
	}
}

func TestP6_1Same(t *testing.T) {
	r := made(1, 2, at(1, 3, 4, "x"), at(2, 5, 6, "y"))
	changed := func(change func(*api.Rec)) api.Rec {
		other := clone(r)
		change(&other)
		return other
	}
	checkSame(t, "a copy", r, clone(r), true)
	for _, x := range []struct {
		why    string
		change func(*api.Rec)
	}{
		{"another first byte of the name", func(o *api.Rec) { o.ID[0]++ }},
		{"another last byte of the name", func(o *api.Rec) { o.ID[15]++ }},
		{"another Dead", func(o *api.Rec) { o.Dead.N++ }},
		{"another Dead, by its replica", func(o *api.Rec) { o.Dead.Rep++ }},
		{"a zero Dead", func(o *api.Rec) { o.Dead = api.Stamp{} }},
		{"another number, the first one", func(o *api.Rec) { o.F[0].No-- }},
		{"another number, the last one", func(o *api.Rec) { o.F[1].No++ }},
		{"another stamp", func(o *api.Rec) { o.F[0].C.S.N++ }},
		{"another stamp, by its replica", func(o *api.Rec) { o.F[1].C.S.Rep++ }},
		{"another value", func(o *api.Rec) { o.F[0].C.V = "z" }},
		{"a longer value", func(o *api.Rec) { o.F[1].C.V += "\x00" }},
		{"no value", func(o *api.Rec) { o.F[1].C.V = "" }},
		{"a field fewer, the first one", func(o *api.Rec) { o.F = o.F[1:] }},
		{"a field fewer, the last one", func(o *api.Rec) { o.F = o.F[:1] }},
		{"no fields", func(o *api.Rec) { o.F = nil }},
		{"a field more", func(o *api.Rec) { o.F = append(o.F, at(3, 5, 6, "y")) }},
		{"a field twice", func(o *api.Rec) { o.F = append(o.F, o.F[1]) }},
		{"another order", func(o *api.Rec) { slices.Reverse(o.F) }},
	} {
		checkSame(t, x.why, r, changed(x.change), false)
	}
}

func TestP6_1SameOfNoFields(t *testing.T) {
	for _, dead := range []api.Stamp{{}, {N: 3, Rep: 2}} {
		none, empty := api.Rec{ID: api.ID{7}, Dead: dead}, api.Rec{ID: api.ID{7}, Dead: dead, F: []api.Field{}}
		room := api.Rec{ID: api.ID{7}, Dead: dead, F: make([]api.Field, 0, 5)}
		checkSame(t, "nil and empty", none, empty, true)
		checkSame(t, "nil and empty, with room", none, room, true)
		checkSame(t, "nil and nil", none, none, true)
		checkSame(t, "nil and a zero field", none, api.Rec{ID: api.ID{7}, Dead: dead, F: []api.Field{{}}}, false)
	}
}

// Same asks nothing of whether a record may be.
func TestP6_1SameOfWhatMayNotBe(t *testing.T) {
	all := goodRecs()
	for _, x := range badRecs() {
		all = append(all, x.r)
	}
	for i, a := range all {
		checkSame(t, "itself", a, clone(a), true)
		for _, b := range all[i+1:] {
			want := a.ID == b.ID && a.Dead == b.Dead && fmt.Sprint(a.F) == fmt.Sprint(b.F)
			checkSame(t, "two", a, b, want)
		}
	}
}

func checkFind(t *testing.T, r api.Rec, no int, want api.Cell, there bool) {
	t.Helper()
	if c, is := rec.Find(r, no); c != want || is != there {
		t.Errorf("Find(%s, %d) = %v, %t; want %v, %t", told(r), no, c, is, want, there)
	}
}

func TestP6_1Find(t *testing.T) {
	r := made(1, 2, at(0, 3, 4, "x"), at(2, 5, 6, "y"), at(7, 9, 0, ""))
	for _, f := range r.F {
		checkFind(t, r, f.No, f.C, true)
	}
	for _, no := range []int{1, 3, 6, 8, -1, math.MaxInt, math.MinInt} {
		checkFind(t, r, no, api.Cell{}, false)
	}
	for no := -1; no <= maxNo; no++ {
		checkFind(t, made(3, 0), no, api.Cell{}, false)
		checkFind(t, api.Rec{}, no, api.Cell{}, false)
	}
}

// A record that may not be is looked through as well: the first field of the number counts, whatever it holds.
func TestP6_1FindOfWhatMayNotBe(t *testing.T) {
	r := made(4, 0, at(5, 1, 0, "first"), at(3, 0, 0, ""), at(5, 9, 0, "second"), at(3, 9, 9, "third"), at(-1, 2, 0, "low"), at(8, 2, 0, "high"))
	checkFind(t, r, 5, at(5, 1, 0, "first").C, true)
	checkFind(t, r, 3, api.Cell{}, true)
	checkFind(t, r, -1, at(-1, 2, 0, "low").C, true)
	checkFind(t, r, 8, at(8, 2, 0, "high").C, true)
	checkFind(t, r, 4, api.Cell{}, false)
	checkFind(t, r, 0, api.Cell{}, false)
}

func checkJoin(t *testing.T, a, b, want api.Rec) {
	t.Helper()
	for _, x := range [][2]api.Rec{{a, b}, {b, a}} {
		if got, is := rec.Join(x[0], x[1]); !is || !rec.Same(got, want) {
			t.Errorf("Join(%s, %s) = %s, %t; want %s", told(x[0]), told(x[1]), told(got), is, told(want))
		}
	}
}

func TestP6_2Join(t *testing.T) {
	for _, x := range []struct{ a, b, want api.Rec }{
		// Numbers that one has, or both, or neither.
		{made(0, 0, at(1, 3, 0, "x")), made(0, 0, at(2, 5, 0, "y")), made(0, 0, at(1, 3, 0, "x"), at(2, 5, 0, "y"))},
		{made(0, 0, at(7, 3, 0, "x")), made(0, 0, at(0, 5, 0, "y")), made(0, 0, at(0, 5, 0, "y"), at(7, 3, 0, "x"))},
		{made(0, 0, at(1, 3, 0, "x")), made(0, 0, at(1, 5, 0, "y")), made(0, 0, at(1, 5, 0, "y"))},
		{made(0, 0, at(1, 3, 0, "x")), made(0, 0, at(1, 3, 1, "y")), made(0, 0, at(1, 3, 1, "y"))},
		{made(0, 0, at(1, 3, 1, "x")), made(0, 0, at(1, 3, 1, "x")), made(0, 0, at(1, 3, 1, "x"))},
		{made(0, 0, at(1, 3, 0, "x"), at(4, 9, 0, "p")), made(0, 0, at(1, 5, 0, "y"), at(4, 8, 7, "q")), made(0, 0, at(1, 5, 0, "y"), at(4, 9, 0, "p"))},
		{made(0, 0, at(0, 1, 0, "a"), at(2, 1, 0, "c"), at(4, 1, 0, "e")), made(0, 0, at(1, 1, 0, "b"), at(3, 1, 0, "d"), at(5, 1, 0, "f")),
			made(0, 0, at(0, 1, 0, "a"), at(1, 1, 0, "b"), at(2, 1, 0, "c"), at(3, 1, 0, "d"), at(4, 1, 0, "e"), at(5, 1, 0, "f"))},
		// The greater Dead.
		{made(3, 0), made(4, 0), made(4, 0)},
		{made(3, 1), made(3, 2), made(3, 2)},
		{made(3, 7), made(4, 0), made(4, 0)},
		{made(maxN, 7), made(maxN, 6), made(maxN, 7)},
		{made(2, 0, at(1, 9, 0, "x")), made(3, 0, at(2, 9, 0, "y")), made(3, 0, at(1, 9, 0, "x"), at(2, 9, 0, "y"))},
		// Cells that are still there, and those that are not.
		{made(0, 0, at(1, 3, 0, "x")), made(4, 0), made(4, 0)},
		{made(0, 0, at(1, 4, 0, "x")), made(4, 0), made(4, 0)},
		{made(0, 0, at(1, 4, 1, "x")), made(4, 0), made(4, 0, at(1, 4, 1, "x"))},
		{made(0, 0, at(1, 4, 1, "x")), made(4, 2), made(4, 2)},
		{made(0, 0, at(1, 5, 0, "x")), made(4, 7), made(4, 7, at(1, 5, 0, "x"))},
		{made(1, 0, at(1, 3, 0, "x"), at(2, 5, 0, "y")), made(4, 0), made(4, 0, at(2, 5, 0, "y"))},
		{made(1, 0, at(1, 3, 0, "x")), made(4, 0, at(1, 5, 0, "y")), made(4, 0, at(1, 5, 0, "y"))},
		{made(1, 0, at(1, 9, 0, "x")), made(4, 0, at(1, 5, 0, "y")), made(4, 0, at(1, 9, 0, "x"))},
		{made(0, 0, eight(1)...), made(8, 7), made(8, 7)},
		{made(0, 0, eight(1)...), made(8, 6), made(8, 6, eight(1)[7])},
		{made(0, 0, eight(1)...), made(3, 2), made(3, 2, eight(1)[3:]...)},
		{made(0, 0, eight(1)...), made(3, 2, eight(4)...), made(3, 2, eight(4)...)},
	} {
		checkJoin(t, x.a, x.b, x.want)
	}
}

// The example of the whole: a field written at 3, and a record dead since 4.
func TestP6_2TheExample(t *testing.T) {
	checkJoin(t, made(0, 0, at(1, 3, 0, "ada")), made(4, 0), made(4, 0))
}

// Of one stamp the value of the greater digest is the cell: here by the library's own digests.
func TestP6_2JoinOfOneStamp(t *testing.T) {
	for _, v := range []string{"", "a", "ab", "abc", "b", "\xff\xfe"} {
		for _, w := range []string{"", "a", "ab", "abc", "b", "\xff\xfe"} {
			p, q := sha256.Sum256([]byte(v)), sha256.Sum256([]byte(w))
			want := v
			if bytes.Compare(p[:], q[:]) < 0 {
				want = w
			}
			checkJoin(t, made(2, 0, at(5, 3, 1, v)), made(0, 0, at(5, 3, 1, w)), made(2, 0, at(5, 3, 1, want)))
		}
	}
}

func checkNone(t *testing.T, why string, a, b api.Rec) {
	t.Helper()
	for _, x := range [][2]api.Rec{{a, b}, {b, a}} {
		got, is := rec.Join(x[0], x[1])
		if is || got.ID != (api.ID{}) || got.Dead != (api.Stamp{}) || len(got.F) != 0 {
			t.Errorf("%s: Join(%s, %s) = %s, %t; want a zero one and false", why, told(x[0]), told(x[1]), told(got), is)
		}
		if rec.Leq(x[0], x[1]) {
			t.Errorf("%s: Leq(%s, %s) is true", why, told(x[0]), told(x[1]))
		}
	}
}

func TestP6_2JoinOfTwoNames(t *testing.T) {
	for _, id := range []api.ID{{}, {8}, {7, 1}, {0: 7, 15: 1}} {
		for _, a := range goodRecs() {
			a.ID = api.ID{7}
			other := clone(a)
			other.ID = id
			checkNone(t, "two names", a, other)
			checkNone(t, "two names", a, api.Rec{ID: id, Dead: api.Stamp{N: maxN, Rep: 7}})
		}
	}
}

func TestP6_2JoinOfWhatMayNotBe(t *testing.T) {
	for _, x := range badRecs() {
		checkNone(t, x.why, x.r, clone(x.r))
		for _, good := range goodRecs() {
			good.ID = x.r.ID
			checkNone(t, x.why, x.r, good)
		}
		for _, y := range badRecs() {
			checkNone(t, x.why+", and "+y.why, x.r, y.r)
		}
	}
}

func TestP6_2Leq(t *testing.T) {
	a := made(0, 0, at(1, 3, 0, "x"), at(2, 5, 0, "y"))
	b := made(3, 0, at(2, 4, 0, "z"), at(6, 9, 0, "w"))
	both := made(3, 0, at(2, 5, 0, "y"), at(6, 9, 0, "w"))
	for _, x := range []struct {
		low, high api.Rec
		want      bool
	}{
		{a, a, true},
		{b, b, true},
		{a, both, true},
		{b, both, true},
		{both, a, false},
		{both, b, false},
		{a, b, false},
		{b, a, false},
		{made(3, 0), both, true},
		{made(3, 1), both, false},
		{made(2, 7), both, true},
		{made(0, 0, at(1, 3, 0, "gone")), both, true},
		{made(0, 0, at(1, 3, 1, "not gone")), both, false},
		{made(0, 0, at(2, 4, 7, "older")), both, true},
		{made(0, 0, at(2, 5, 0, "y")), both, true},
		{made(0, 0, at(2, 5, 1, "newer")), both, false},
		{made(0, 0, at(3, 9, 0, "another number")), both, false},
		{made(maxN, 7), both, false},
		{both, made(maxN, 7), true},
		{both, made(9, 0), true},
		{both, made(8, 7), false},
	} {
		if got := rec.Leq(x.low, x.high); got != x.want {
			t.Errorf("Leq(%s, %s) is %t", told(x.low), told(x.high), got)
		}
	}
}

// joined is what two records are together, worked out number by number, with no map.
func joined(a, b api.Rec) api.Rec {
	later := func(s, than api.Stamp) bool { return s.N > than.N || s.N == than.N && s.Rep > than.Rep }
	out := api.Rec{ID: a.ID, Dead: a.Dead}
	if later(b.Dead, a.Dead) {
		out.Dead = b.Dead
	}
	for no := range maxNo {
		var best api.Cell
		for _, f := range append(slices.Clone(a.F), b.F...) {
			if f.No != no {
				continue
			}
			p, q := sha256.Sum256([]byte(f.C.V)), sha256.Sum256([]byte(best.V))
			if later(f.C.S, best.S) || f.C.S == best.S && bytes.Compare(p[:], q[:]) > 0 {
				best = f.C
			}
		}
		if later(best.S, out.Dead) {
			out.F = append(out.F, api.Field{No: no, C: best})
		}
	}
	return out
}

// dice is a short rule that mixes records: each run has the same ones.
type dice uint32

func (d *dice) below(n int) int {
	*d = *d*1664525 + 1013904223
	return int(*d>>16) % n
}

func (d *dice) stamp(most int) api.Stamp {
	return api.Stamp{N: 1 + d.below(most), Rep: d.below(2)}
}

// mixed is a record that may be, of few stamps and values, so that two of them often meet.
func (d *dice) mixed() api.Rec {
	for {
		r := api.Rec{ID: api.ID{7}}
		if d.below(2) == 0 {
			r.Dead = d.stamp(3)
		}
		for no := range maxNo {
			if d.below(3) == 0 {
				r.F = append(r.F, api.Field{No: no, C: api.Cell{S: d.stamp(4), V: string(rune('a' + d.below(3)))}})
			}
		}
		if rec.May(r) {
			return r
		}
	}
}

func lawRecs() []api.Rec {
	var d dice
	all := []api.Rec{
		made(1, 0), made(2, 1), made(3, 0), made(maxN, 7), made(0, 0, eight(1)...), made(3, 2, eight(4)...),
		made(0, 0, at(0, 1, 0, "")), made(0, 0, at(7, maxN, 7, "a")), made(2, 0, at(3, 3, 0, "a")), made(2, 0, at(3, 3, 0, "b")),
	}
	for len(all) < 45 {
		all = append(all, d.mixed())
	}
	return all
}

func TestP6_2JoinOfManyPairs(t *testing.T) {
	var d dice
	for range 20000 {
		a, b := d.mixed(), d.mixed()
		checkJoin(t, a, b, joined(a, b))
		if got, want := rec.Leq(a, b), rec.Same(joined(a, b), b); got != want {
			t.Errorf("Leq(%s, %s) is %t", told(a), told(b), got)
		}
	}
}

func mustJoin(t *testing.T, a, b api.Rec) api.Rec {
	t.Helper()
	both, is := rec.Join(a, b)
	if !is {
		t.Fatalf("Join(%s, %s) is none", told(a), told(b))
	}
	return both
}

func TestP6_3JoinOfARecordAndItself(t *testing.T) {
	for _, r := range append(goodRecs(), lawRecs()...) {
		if got := mustJoin(t, r, clone(r)); !rec.Same(got, r) {
			t.Errorf("Join(%s, the same) = %s", told(r), told(got))
		}
		if !rec.Leq(r, r) {
			t.Errorf("Leq(%s, the same) is false", told(r))
		}
	}
}

func TestP6_3JoinEitherWay(t *testing.T) {
	for _, a := range lawRecs() {
		for _, b := range lawRecs() {
			got, other := mustJoin(t, a, b), mustJoin(t, b, a)
			if !rec.Same(got, other) {
				t.Errorf("Join(%s, %s) = %s, the other way %s", told(a), told(b), told(got), told(other))
			}
			if !rec.May(got) {
				t.Errorf("Join(%s, %s) = %s may not be", told(a), told(b), told(got))
			}
			if !rec.Leq(a, got) || !rec.Leq(b, got) {
				t.Errorf("Join(%s, %s) = %s, and one adds to it", told(a), told(b), told(got))
			}
		}
	}
}

func TestP6_3JoinOfThree(t *testing.T) {
	all := lawRecs()
	for _, a := range all {
		for _, b := range all {
			ab := mustJoin(t, a, b)
			for _, c := range all {
				first, last := mustJoin(t, ab, c), mustJoin(t, a, mustJoin(t, b, c))
				if !rec.Same(first, last) {
					t.Errorf("%s, %s and %s joined: %s, or %s", told(a), told(b), told(c), told(first), told(last))
				}
			}
		}
	}
}

func TestR3NothingIsShared(t *testing.T) {
	for _, a := range lawRecs() {
		for _, b := range lawRecs() {
			// Room behind the fields is where a careless answer would write.
			inA, inB := clone(a), clone(b)
			inA.F, inB.F = append(make([]api.Field, 0, 20), a.F...), append(make([]api.Field, 0, 20), b.F...)
			got := mustJoin(t, inA, inB)
			rec.May(inA)
			rec.Leq(inA, inB)
			rec.Find(inA, 3)
			for i, f := range got.F[:cap(got.F)] {
				got.F[:cap(got.F)][i] = at(f.No+1, 77, 7, "changed")
			}
			if !rec.Same(inA, a) || !rec.Same(inB, b) {
				t.Fatalf("%s and %s were handed in, and are %s and %s now", told(a), told(b), told(inA), told(inB))
			}
			room := append(slices.Clone(inA.F[len(inA.F):20]), inB.F[len(inB.F):20]...)
			if slices.ContainsFunc(room, func(f api.Field) bool { return f != api.Field{} }) {
				t.Fatalf("behind the fields of %s or %s something is written", told(a), told(b))
			}
			got = mustJoin(t, inA, inB)
			kept := clone(got)
			clear(inA.F[:20])
			clear(inB.F[:20])
			if !rec.Same(got, kept) {
				t.Fatalf("Join(%s, %s) is %s behind a change to what was handed in", told(a), told(b), told(got))
			}
		}
	}
}

// An answer hangs on nothing that was asked before.
func TestR5AskedAgain(t *testing.T) {
	a, b := made(0, 0, at(1, 3, 0, "x"), at(2, 5, 0, "y")), made(3, 0, at(2, 4, 0, "z"), at(6, 9, 0, "w"))
	first := mustJoin(t, a, b)
	for _, r := range lawRecs() {
		mustJoin(t, a, r)
		rec.Leq(r, b)
	}
	for _, x := range badRecs() {
		rec.Join(a, x.r)
	}
	if again := mustJoin(t, a, b); !rec.Same(again, first) {
		t.Errorf("Join = %s, asked again %s", told(first), told(again))
	}
}

// fromBytes is any record that few bytes tell: most of them may not be.
func fromBytes(b []byte) api.Rec {
	next := func() int {
		if len(b) == 0 {
			return 0
		}
		n := int(int8(b[0]))
		b = b[1:]
		return n
	}
	r := api.Rec{ID: api.ID{byte(next() & 1)}, Dead: api.Stamp{N: next(), Rep: next()}}
	for len(b) > 0 {
		r.F = append(r.F, at(next(), next(), next(), strings.Repeat("x", next()&1*maxVal+next()&1)))
	}
	return r
}

func FuzzAnyRecords(f *testing.F) {
	f.Add([]byte{}, []byte{})
	f.Add([]byte{0, 0, 0, 1, 3, 0, 0, 1}, []byte{0, 4, 0})
	f.Add([]byte{0, 0, 0, 1, 3, 0, 0, 1, 2, 5, 0, 1, 0}, []byte{0, 3, 0, 2, 4, 0, 0, 0, 6, 9, 0, 1, 0})
	f.Add([]byte{1, 1, 0, 1, 3, 0, 1, 1}, []byte{0, 4, 0, 8, 1, 0, 0, 0})
	f.Fuzz(func(t *testing.T, p, q []byte) {
		a, b := fromBytes(p), fromBytes(q)
		if a.ID != b.ID || !rec.May(a) || !rec.May(b) {
			checkNone(t, "any two", a, b)
			return
		}
		checkJoin(t, a, b, joined(a, b))
		if both := mustJoin(t, a, b); !rec.May(both) || !rec.Leq(a, both) || !rec.Leq(b, both) {
			t.Errorf("Join(%s, %s) = %s", told(a), told(b), told(both))
		}
	})
}
