package delta_test

import (
	"math"
	"math/rand/v2"
	"slices"
	"strings"
	"testing"

	"rolodex/api"
	"rolodex/delta"
)

func checkMay(t *testing.T, l []api.Piece, want bool) {
	t.Helper()
	if delta.May(l) != want {
		t.Errorf("May of %d pieces, %s = %t", len(l), shown(l), !want)
	}
}

func checkSame(t *testing.T, a, b []api.Piece, want bool) {
	t.Helper()
	if delta.Same(a, b) != want || delta.Same(b, a) != want {
		t.Errorf("Same(%s, %s) = %t, %t; want %t", shown(a), shown(b), delta.Same(a, b), delta.Same(b, a), want)
	}
}

func checkApply(t *testing.T, base string, l []api.Piece, want string) {
	t.Helper()
	if s, is := delta.Apply(base, l); s != want || !is {
		t.Errorf("Apply(%.60q, %s) = %q, %t; want %q", base, shown(l), s, is, want)
	}
}

func checkApplyNone(t *testing.T, base string, l []api.Piece) {
	t.Helper()
	if s, is := delta.Apply(base, l); s != "" || is {
		t.Errorf("Apply(%.60q, %s) = %q, %t; want nothing and false", base, shown(l), s, is)
	}
}

// checkApplyTold holds an Apply against the chapter's words.
func checkApplyTold(t *testing.T, base string, l []api.Piece) {
	t.Helper()
	if want, is := toldApply(base, l); is {
		checkApply(t, base, l, want)
	} else {
		checkApplyNone(t, base, l)
	}
}

func TestP11_1MayOfHowMany(t *testing.T) {
	checkMay(t, nil, true)
	checkMay(t, []api.Piece{}, true)
	for _, p := range []api.Piece{text("a"), copied(0, 1), copied(200, 3)} {
		for many := range 70 {
			checkMay(t, slices.Repeat(list(p), many), many <= 60)
		}
	}
}

func TestP11_1MayOfACopy(t *testing.T) {
	for _, x := range []struct {
		from int
		want bool
	}{{math.MinInt, false}, {-2, false}, {-1, false}, {0, true}, {1, true}, {199, true}, {200, true}, {201, false}, {202, false}, {1 << 32, false}, {math.MaxInt, false}} {
		checkMay(t, list(copied(x.from, 1)), x.want)
		checkMay(t, list(copied(x.from, 200)), x.want)
		checkMay(t, list(copied(x.from, 0)), false)
		checkMay(t, list(copied(x.from, 201)), false)
		checkMay(t, list(api.Piece{Copy: true, From: x.from, Len: 1, Lit: "a"}), false)
	}
	for _, x := range []struct {
		many int
		want bool
	}{{math.MinInt, false}, {-1, false}, {0, false}, {1, true}, {2, true}, {199, true}, {200, true}, {201, false}, {202, false}, {1<<32 + 1, false}, {math.MaxInt, false}} {
		checkMay(t, list(copied(0, x.many)), x.want)
		checkMay(t, list(copied(200, x.many)), x.want)
		checkMay(t, list(copied(201, x.many)), false)
		checkMay(t, list(copied(-1, x.many)), false)
		checkMay(t, list(api.Piece{Copy: true, Len: x.many, Lit: "a"}), false)
	}
}

func TestP11_1MayOfAText(t *testing.T) {
	for many := range 300 {
		checkMay(t, list(text(bytesOf(many))), many >= 1 && many <= 200)
		checkMay(t, list(text(scattered(many))), many >= 1 && many <= 200)
	}
	for _, other := range []int{1, -1, 200, 201, math.MaxInt, math.MinInt} {
		checkMay(t, list(api.Piece{Lit: "a", From: other}), false)
		checkMay(t, list(api.Piece{Lit: "a", Len: other}), false)
		checkMay(t, list(api.Piece{Lit: "a", From: other, Len: other}), false)
		checkMay(t, list(api.Piece{From: other}), false)
		checkMay(t, list(api.Piece{Len: other}), false)
	}
	// Bytes are counted, not letters.
	checkMay(t, list(text(strings.Repeat("\u20ac", 66))), true)
	checkMay(t, list(text(strings.Repeat("\u20ac", 67))), false)
}

func TestP11_1MayOfAllTogether(t *testing.T) {
	for one := 1; one <= 200; one++ {
		for _, all := range []int{200, 201} {
			rest := all - one
			if rest < 1 || rest > 200 {
				continue
			}
			for _, l := range [][]api.Piece{
				list(copied(0, one), copied(200, rest)), list(text(bytesOf(one)), text(bytesOf(rest))), list(copied(3, one), text(bytesOf(rest))), list(text(bytesOf(one)), copied(4, rest)),
			} {
				checkMay(t, l, all == 200)
				checkMay(t, append(l, text("a")), false)
				checkMay(t, append(l, copied(0, 1)), false)
				checkMay(t, l[1:], true)
			}
		}
	}
	checkMay(t, slices.Repeat(list(text("abcd")), 50), true)
	checkMay(t, append(slices.Repeat(list(text("abcd")), 50), text("a")), false)
	checkMay(t, append(slices.Repeat(list(copied(9, 4)), 49), copied(9, 3), text("a")), true)
	checkMay(t, append(slices.Repeat(list(copied(9, 4)), 49), copied(9, 4), text("a")), false)
}

func TestP11_1MayOfAll(t *testing.T) {
	for _, l := range mayBe() {
		checkMay(t, l, true)
	}
	for _, l := range mayNotBe() {
		checkMay(t, l, false)
	}
}

func TestP11_1MayOfAnything(t *testing.T) {
	dice := rand.New(rand.NewPCG(11, 1))
	for range 20000 {
		l := anyPieces(dice)
		checkMay(t, l, toldMay(l))
	}
}

// anyPieces are pieces of which now and then one may not be.
func anyPieces(dice *rand.Rand) []api.Piece {
	edges := []int{-1, 0, 1, 2, 3, 8, 100, 199, 200, 201}
	var l []api.Piece
	for range dice.IntN(6) {
		p := copied(dice.IntN(201), 1+dice.IntN(90))
		if dice.IntN(2) == 0 {
			p = text(scattered(1 + dice.IntN(90)))
		}
		switch dice.IntN(40) {
		case 0:
			p.From = edges[dice.IntN(len(edges))]
		case 1:
			p.Len = edges[dice.IntN(len(edges))]
		case 2:
			p.Lit = bytesOf(max(0, edges[dice.IntN(len(edges))]))
		case 3:
			p.Copy = !p.Copy
		}
		l = append(l, p)
	}
	return l
}

func TestP11_1Same(t *testing.T) {
	checkSame(t, nil, nil, true)
	checkSame(t, nil, []api.Piece{}, true)
	checkSame(t, nil, list(api.Piece{}), false)
	all := append(mayBe(), mayNotBe()...)
	for i, a := range all {
		checkSame(t, a, slices.Clone(a), true)
		checkSame(t, a, append(slices.Clone(a), text("a")), false)
		checkSame(t, a, append(slices.Clone(a), api.Piece{}), false)
		checkSame(t, a, append(list(copied(0, 1)), a...), false)
		for _, b := range all[:i] {
			checkSame(t, a, b, slices.Equal(a, b))
		}
	}
}

func TestP11_1SameOfAnotherOrder(t *testing.T) {
	a, b, c := text("a"), copied(0, 8), copied(8, 8)
	for _, x := range []struct {
		l    []api.Piece
		want bool
	}{
		{list(a, b, c), true}, {list(a, c, b), false}, {list(b, a, c), false}, {list(c, b, a), false}, {list(b, c, a), false}, {list(a, b), false}, {list(b, c), false}, {list(a, a, c), false}, {list(a, b, c, c), false}, {list(a, copied(0, 16)), false},
	} {
		checkSame(t, list(a, b, c), x.l, x.want)
	}
}

func TestP11_1SameWithEachMemberAnother(t *testing.T) {
	for _, l := range [][]api.Piece{list(copied(3, 7)), list(text("ab")), list(text("a"), copied(3, 7), text("b")), slices.Repeat(list(copied(0, 1)), 60)} {
		for i := range l {
			for name, change := range map[string]func(*api.Piece){
				"Copy":        func(p *api.Piece) { p.Copy = !p.Copy },
				"From":        func(p *api.Piece) { p.From++ },
				"From, wide":  func(p *api.Piece) { p.From += 1 << 40 },
				"Len":         func(p *api.Piece) { p.Len++ },
				"Len, wide":   func(p *api.Piece) { p.Len -= 1 << 40 },
				"Lit, longer": func(p *api.Piece) { p.Lit += "\x00" },
				"Lit":         func(p *api.Piece) { p.Lit = strings.ToUpper(p.Lit) + "Z"[:min(1, p.Len)] },
			} {
				other := slices.Clone(l)
				change(&other[i])
				if delta.Same(l, other) || delta.Same(other, l) {
					t.Errorf("%s of the piece %d is another one: %s and %s are the same", name, i, shown(l), shown(other))
				}
			}
		}
	}
}

func TestP11_1ApplyExamples(t *testing.T) {
	for _, x := range []struct {
		base string
		l    []api.Piece
		want string
	}{
		{"", nil, ""},
		{alphabet, nil, ""},
		{alphabet, []api.Piece{}, ""},
		{"", list(text("abc")), "abc"},
		{alphabet, list(text("\x00\xff")), "\x00\xff"},
		{alphabet[:24], list(text("x"), copied(0, 16)), "xabcdefghijklmnop"},
		{alphabet, list(copied(0, 26)), alphabet},
		{alphabet, list(copied(25, 1)), "z"},
		{alphabet, list(copied(20, 6)), "uvwxyz"},
		{alphabet, list(copied(3, 1)), "d"},
		{alphabet, list(copied(8, 8), copied(0, 8)), "ijklmnopabcdefgh"},
		{alphabet, list(copied(1, 2), copied(1, 2), text("-"), copied(0, 3), text("+"), text("+")), "bcbc-abc++"},
		{"\u00e9\u20ac", list(copied(1, 3), text("\x82")), "\xa9\xe2\x82\x82"},
		{scattered(400), list(copied(200, 200)), scattered(400)[200:]},
		{scattered(200), list(copied(0, 100), text(bytesOf(100))), scattered(200)[:100] + bytesOf(100)},
		{"ab", slices.Repeat(list(copied(1, 1)), 60), strings.Repeat("b", 60)},
		{"", slices.Repeat(list(text("ab")), 60), strings.Repeat("ab", 60)},
	} {
		checkApply(t, x.base, x.l, x.want)
	}
}

func TestP11_1ApplyToTheEnd(t *testing.T) {
	for _, length := range []int{0, 1, 2, 7, 24, 199, 200, 201, 399, 400, 401, 1000} {
		base := scattered(length)
		for _, from := range []int{0, 1, 2, 23, 24, 25, 100, 198, 199, 200} {
			for _, many := range []int{1, 2, 3, 8, 24, 100, 199, 200} {
				if from+many <= length {
					checkApply(t, base, list(copied(from, many)), base[from:from+many])
				} else {
					checkApplyNone(t, base, list(copied(from, many)))
				}
			}
			// Just at the end, a byte beyond it, and from behind it on.
			if many := length - from; many >= 1 && many <= 200 {
				checkApply(t, base, list(copied(from, many)), base[from:])
				if many < 200 {
					checkApplyNone(t, base, list(copied(from, many+1)))
				}
			}
		}
		for _, from := range []int{length, length + 1, length + 7} {
			checkApplyNone(t, base, list(copied(from, 1)))
		}
	}
}

// Nothing of what stands ahead of a wrong piece is answered.
func TestP11_1ApplyBeyondTheEnd(t *testing.T) {
	for _, wrong := range []api.Piece{copied(20, 7), copied(26, 1), copied(27, 1), copied(0, 27), copied(200, 150), copied(25, 2)} {
		for _, l := range [][]api.Piece{list(wrong), list(text("a"), wrong), list(wrong, text("a")), list(copied(0, 8), wrong), list(text("a"), copied(0, 26), wrong, text("b"))} {
			checkMay(t, l, true)
			checkApplyNone(t, alphabet, l)
		}
	}
	checkApplyNone(t, "", list(copied(0, 1)))
	checkApplyNone(t, "", list(text("a"), copied(0, 1)))
}

func TestP11_1ApplyOfPiecesThatMayNotBe(t *testing.T) {
	for _, l := range mayNotBe() {
		for _, base := range []string{"", alphabet, scattered(200), scattered(1000)} {
			checkApplyNone(t, base, l)
		}
	}
}

func TestP11_1ApplyOfAnything(t *testing.T) {
	dice := rand.New(rand.NewPCG(11, 2))
	for range 20000 {
		checkApplyTold(t, scattered(dice.IntN(420)), anyPieces(dice))
	}
}
