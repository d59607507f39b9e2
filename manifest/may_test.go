package manifest_test

import (
	"fmt"
	"math"
	"math/rand/v2"
	"slices"
	"strings"
	"testing"

	"rolodex/api"
	"rolodex/manifest"
)

func checkMay(t *testing.T, what string, m api.Manifest, want bool) {
	t.Helper()
	if toldMay(m) != want {
		t.Fatalf("%s: by the chapter's words it is %t, not %t", what, !want, want)
	}
	if is := manifest.May(m); is != want {
		t.Errorf("%s: May(%s) = %t; want %t", what, told(m), is, want)
	}
}

func TestP12_1MayOfLines(t *testing.T) {
	checkMay(t, "a zero manifest", api.Manifest{}, true)
	checkMay(t, "no line", lines(), true)
	checkMay(t, "an empty list of lines", lines([]api.Line{}...), true)
	for many := range 300 {
		checkMay(t, fmt.Sprintf("%d lines", many), lines(rising(min(many, 256))...), many <= 10)
	}
	checkMay(t, "one zero line", lines(api.Line{}), false)
	ten := rising(10)
	ten[9] = api.Line{ID: api.ID{99}}
	checkMay(t, "the tenth line may not be", lines(ten...), false)
	// Of what Base is nothing is asked.
	for _, base := range []api.Digest{{}, {1}, {31: 255}} {
		checkMay(t, "another Base", api.Manifest{Base: base, L: rising(3)}, true)
	}
}

func TestP12_1MayOfNames(t *testing.T) {
	d := by(1, 0)
	named := func(ids ...api.ID) api.Manifest {
		var m api.Manifest
		for _, id := range ids {
			m.L = append(m.L, api.Line{ID: id, Dead: d})
		}
		return m
	}
	for _, x := range []struct {
		ids  []api.ID
		want bool
	}{
		{[]api.ID{{1}}, true}, {[]api.ID{{}}, true}, {[]api.ID{{}, {1}}, true}, {[]api.ID{{1}, {2}, {3}}, true}, {[]api.ID{{1}, {9}, {255}}, true},
		{[]api.ID{{}, {}}, false}, {[]api.ID{{1}, {1}}, false}, {[]api.ID{{1}, {2}, {2}}, false}, {[]api.ID{{1}, {2}, {1}}, false},
		{[]api.ID{{2}, {1}}, false}, {[]api.ID{{1}, {3}, {2}}, false}, {[]api.ID{{3}, {1}, {2}}, false},
		{[]api.ID{{127}, {128}}, true}, {[]api.ID{{128}, {127}}, false},
		{[]api.ID{{15: 1}, {15: 2}}, true}, {[]api.ID{{15: 2}, {15: 1}}, false}, {[]api.ID{{15: 255}, {1}}, true}, {[]api.ID{{1}, {15: 255}}, false}, {[]api.ID{{0: 1, 15: 9}, {0: 2}}, true},
	} {
		checkMay(t, fmt.Sprint("names ", x.ids), named(x.ids...), x.want)
	}
}

func TestP12_1MayOfDead(t *testing.T) {
	for _, x := range []struct {
		dead api.Stamp
		want bool
	}{
		{by(1, 0), true}, {by(1, 7), true}, {by(maxN, 0), true}, {by(maxN, 7), true},
		{by(0, 0), false}, {by(0, 1), false}, {by(-1, 0), false}, {by(maxN+1, 0), false}, {by(1, 8), false}, {by(1, -1), false}, {by(maxN, 8), false},
		{by(math.MaxInt, 0), false}, {by(math.MinInt, 0), false}, {by(1, math.MaxInt), false}, {by(1, math.MinInt), false},
	} {
		checkMay(t, fmt.Sprint("without entries, dead since ", x.dead), lines(line(1, x.dead)), x.want)
		checkMay(t, fmt.Sprint("with an empty list of entries, dead since ", x.dead), lines(line(1, x.dead, []api.Entry{}...)), x.want)
		checkMay(t, fmt.Sprint("in the second line, dead since ", x.dead), lines(line(1, by(1, 0)), line(2, x.dead)), x.want)
		last := entry(0, by(maxN, 7), "a")
		checkMay(t, fmt.Sprint("with an entry, dead since ", x.dead), lines(line(1, x.dead, last)), x.dead == by(0, 0) || x.want && x.dead != by(maxN, 7))
	}
}

func TestP12_1MayOfNumbers(t *testing.T) {
	for _, x := range []struct {
		nos  []int
		want bool
	}{
		{[]int{0}, true}, {[]int{7}, true}, {[]int{0, 1}, true}, {[]int{0, 7}, true}, {[]int{6, 7}, true}, {[]int{1, 3, 5}, true}, {[]int{0, 1, 2, 3, 4, 5, 6, 7}, true},
		{[]int{0, 0}, false}, {[]int{3, 3}, false}, {[]int{7, 7}, false}, {[]int{1, 2, 2}, false}, {[]int{1, 2, 1}, false},
		{[]int{1, 0}, false}, {[]int{7, 0}, false}, {[]int{0, 3, 2}, false},
		{[]int{-1}, false}, {[]int{-1, 0}, false}, {[]int{0, -1}, false}, {[]int{8}, false}, {[]int{7, 8}, false}, {[]int{0, 1, 2, 3, 4, 5, 6, 7, 8}, false}, {[]int{256}, false}, {[]int{1 << 32}, false},
		{[]int{math.MaxInt}, false}, {[]int{math.MinInt}, false}, {[]int{math.MaxInt, math.MinInt}, false}, {[]int{math.MaxInt, 0}, false},
	} {
		var l []api.Entry
		for _, no := range x.nos {
			l = append(l, entry(no, by(1, 0), "a"))
		}
		checkMay(t, fmt.Sprint("entries of the numbers ", x.nos), one(l...), x.want)
	}
}

func TestP12_1MayOfAnEntrysStamp(t *testing.T) {
	for _, x := range []struct {
		dead, s api.Stamp
		want    bool
	}{
		{by(0, 0), by(1, 0), true}, {by(0, 0), by(1, 7), true}, {by(0, 0), by(maxN, 7), true}, {by(5, 3), by(5, 4), true}, {by(5, 3), by(6, 0), true}, {by(1, 0), by(maxN, 0), true},
		{by(5, 3), by(5, 3), false}, {by(5, 3), by(5, 2), false}, {by(5, 3), by(4, 7), false}, {by(5, 3), by(1, 0), false}, {by(5, 0), by(4, 7), false}, {by(maxN, 7), by(maxN, 7), false},
		{by(0, 0), by(0, 0), false}, {by(0, 0), by(0, 1), false}, {by(5, 3), by(0, 0), false},
		{by(0, 0), by(-1, 0), false}, {by(0, 0), by(maxN+1, 0), false}, {by(0, 0), by(1, 8), false}, {by(0, 0), by(1, -1), false}, {by(5, 3), by(5, 8), false}, {by(5, 3), by(6, -1), false},
		{by(0, 0), by(math.MaxInt, 0), false}, {by(0, 0), by(1, math.MaxInt), false}, {by(0, 0), by(math.MinInt, math.MinInt), false},
	} {
		what := fmt.Sprintf("dead since %v, and an entry of %v", x.dead, x.s)
		checkMay(t, what, lines(line(1, x.dead, entry(0, x.s, "a"))), x.want)
		checkMay(t, what+" behind others", lines(line(0, by(1, 0)), line(1, x.dead, entry(0, by(maxN, 7), "a"), entry(4, x.s, scattered(24)))), x.want && x.dead != by(maxN, 7))
	}
}

// sized is an entry of a Len, with so many blocks.
func sized(length, blocks int) api.Entry {
	return api.Entry{S: by(1, 0), Len: length, B: make([]api.Sig, blocks)}
}

func TestP12_1MayOfLens(t *testing.T) {
	for _, x := range []struct {
		length, blocks int
		want           bool
	}{
		{-1, 0, false}, {-8, 0, false}, {-24, 3, false}, {0, 0, true}, {1, 0, true}, {7, 0, true}, {8, 0, true}, {16, 0, true}, {23, 0, true},
		{24, 3, true}, {25, 3, true}, {31, 3, true}, {32, 4, true}, {199, 24, true}, {200, 25, true},
		{201, 25, false}, {208, 26, false}, {1 << 32, 0, false}, {1<<32 + 24, 3, false}, {math.MaxInt, 0, false}, {math.MinInt, 0, false}, {math.MinInt + 24, 3, false},
		{0, 1, false}, {7, 1, false}, {8, 1, false}, {16, 2, false}, {23, 1, false}, {23, 2, false}, {23, 3, false},
		{24, 2, false}, {24, 4, false}, {24, 0, false}, {25, 4, false}, {31, 4, false}, {32, 3, false}, {32, 5, false}, {200, 24, false}, {200, 26, false}, {200, 0, false}, {200, 1000, false}, {201, 0, false}, {201, 26, false},
	} {
		what := fmt.Sprintf("a Len of %d, with %d blocks", x.length, x.blocks)
		checkMay(t, what, one(sized(x.length, x.blocks)), x.want)
		second := sized(x.length, x.blocks)
		second.No = 5
		checkMay(t, what+" behind others", lines(line(0, by(1, 0)), line(1, api.Stamp{}, entry(4, by(1, 0), scattered(40)), second)), x.want)
	}
	for length := -2; length <= 220; length++ {
		for blocks := range 30 {
			many := len(toldBlocks(strings.Repeat("a", max(0, length))))
			checkMay(t, fmt.Sprintf("a Len of %d, with %d blocks", length, blocks), one(sized(length, blocks)), 0 <= length && length <= 200 && blocks == many)
		}
	}
}

// Nothing is asked of what the digests and the blocks are: the values they are of are not there.
func TestP12_1MayWhateverTheDigests(t *testing.T) {
	for _, b := range goodBooks() {
		m := toldOf(b)
		m.Base = api.Digest{}
		for i, l := range m.L {
			for j, e := range l.F {
				m.L[i].F[j].D = api.Digest{31: 1}
				clear(e.B)
			}
		}
		checkMay(t, "other digests", m, true)
	}
}

func TestP12_1MayOfEmptyBlocksAndNone(t *testing.T) {
	e := entry(0, by(1, 0), "a")
	e.B = nil
	checkMay(t, "no blocks", one(e), true)
	e.B = []api.Sig{}
	checkMay(t, "an empty list of blocks", one(e), true)
}

// change makes one part of a manifest another one, which may be or not.
func change(dice *rand.Rand, m *api.Manifest) {
	numbers := []int{math.MinInt, -1, 0, 1, 2, 3, 7, 8, 23, 24, 25, 200, 201, maxN, maxN + 1, math.MaxInt}
	some := func() int { return numbers[dice.IntN(len(numbers))] }
	if len(m.L) == 0 {
		m.L = rising(dice.IntN(13))
		return
	}
	i := dice.IntN(len(m.L))
	l := &m.L[i]
	switch dice.IntN(6) {
	case 0:
		m.L = append(m.L, m.L[i])
	case 1:
		l.ID = api.ID{byte(dice.IntN(12))}
	case 2:
		l.Dead = by(some(), some())
	case 3:
		l.F = nil
	default:
		if len(l.F) > 0 {
			changeEntry(dice, &l.F[dice.IntN(len(l.F))], some)
		}
	}
}

func changeEntry(dice *rand.Rand, e *api.Entry, some func() int) {
	switch dice.IntN(6) {
	case 0:
		e.No = some()
	case 1:
		e.S.N = some()
	case 2:
		e.S.Rep = some()
	case 3:
		e.Len = some()
	case 4:
		e.B = make([]api.Sig, dice.IntN(27))
	case 5:
		*e = sized(dice.IntN(210), dice.IntN(27))
	}
}

func TestP12_1MayOfAnything(t *testing.T) {
	dice := rand.New(rand.NewPCG(12, 11))
	many := 0
	for range 30000 {
		m := toldOf(anyBook(dice))
		for range dice.IntN(3) {
			change(dice, &m)
		}
		want := toldMay(m)
		if want {
			many++
		}
		if is := manifest.May(m); is != want {
			t.Fatalf("May(%s) = %t; want %t", told(m), is, want)
		}
	}
	if many < 5000 || many > 25000 {
		t.Errorf("%d of the 30000 may be: too few, or too many, to tell much", many)
	}
}

func TestP12_1MayOfOddOnes(t *testing.T) {
	for i, m := range mayNotBe() {
		checkMay(t, fmt.Sprint("odd one ", i), m, false)
	}
	for _, b := range goodBooks() {
		checkMay(t, "what is known", toldOf(b), true)
	}
	checkMay(t, "a line, and one that may not be", lines(slices.Concat(rising(4), []api.Line{line(9, by(0, 3))})...), false)
}
