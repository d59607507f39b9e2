package delta_test

import (
	"fmt"
	"math"
	"math/rand/v2"
	"slices"
	"strings"

	"rolodex/api"
	"rolodex/sign"
)

const alphabet = "abcdefghijklmnopqrstuvwxyz"

func copied(from, many int) api.Piece {
	return api.Piece{Copy: true, From: from, Len: many}
}

func text(s string) api.Piece {
	return api.Piece{Lit: s}
}

func list(l ...api.Piece) []api.Piece {
	return l
}

// shown is a list of pieces, cut where it is long.
func shown(l []api.Piece) string {
	s := ""
	for _, p := range l[:min(len(l), 12)] {
		s += fmt.Sprintf("{%t %d %d %.40q}", p.Copy, p.From, p.Len, p.Lit)
	}
	return fmt.Sprintf("[%d: %s]", len(l), s)
}

func bytesOf(many int) string {
	return strings.Repeat("y", many)
}

// scattered is many bytes of which no two neighbours hang on each other.
func scattered(many int) string {
	b := make([]byte, many)
	n := uint64(many)
	for i := range b {
		n = n*6364136223846793005 + 1442695040888963407
		b[i] = byte(n >> 56)
	}
	return string(b)
}

// mayBe are lists of pieces that may be.
func mayBe() [][]api.Piece {
	return [][]api.Piece{
		nil,
		{},
		list(copied(0, 1)), list(copied(0, 200)), list(copied(200, 1)), list(copied(200, 200)), list(copied(1, 2)), list(copied(127, 127)), list(copied(128, 128)), list(copied(8, 16)),
		list(text("a")), list(text("\x00")), list(text("\xff\xfe")), list(text(bytesOf(127))), list(text(bytesOf(128))), list(text(bytesOf(199))), list(text(bytesOf(200))),
		list(text("x"), copied(0, 16)), list(copied(0, 8), copied(0, 8)), list(copied(0, 8), copied(8, 8)), list(text("a"), text("b")), list(copied(200, 1), text("a"), copied(3, 2), text("\x01\x01")),
		list(copied(0, 100), text(bytesOf(100))), list(copied(0, 100), copied(100, 100)), list(text(bytesOf(199)), copied(200, 1)), list(copied(200, 199), text("a")), list(text(bytesOf(100)), text(bytesOf(99))),
		slices.Repeat(list(text("a")), 60), slices.Repeat(list(copied(200, 1)), 60), slices.Repeat(list(text("abc")), 60), slices.Repeat(list(copied(9, 3)), 60),
		slices.Repeat(list(text("ab"), copied(7, 4)), 30), slices.Repeat(list(copied(1, 4), text("a")), 30),
	}
}

// mayNotBeOne are single pieces that may not be.
func mayNotBeOne() []api.Piece {
	l := []api.Piece{
		{},
		text(bytesOf(201)), text(bytesOf(202)), text(bytesOf(100000)),
		{Lit: "a", From: 1}, {Lit: "a", Len: 1}, {Lit: "a", From: -1}, {Lit: "a", Len: -1}, {Lit: "a", From: 1, Len: -1}, {Lit: "a", From: math.MaxInt, Len: math.MinInt}, {Lit: "a", From: 1, Len: 1}, {From: 1}, {Len: 1}, {From: 2, Len: 3},
		{Copy: true}, {Copy: true, From: 5}, {Copy: true, Len: 1, Lit: "a"}, {Copy: true, Lit: "a"}, {Copy: true, Len: 1, Lit: "\x00"}, {Copy: true, From: 200, Len: 200, Lit: bytesOf(200)},
	}
	for _, wrong := range []int{-1, -2, -200, 201, 202, 256, 1 << 32, 1<<32 + 1, math.MaxInt, math.MaxInt - 1, math.MinInt, math.MinInt + 1} {
		l = append(l, copied(wrong, 1), copied(0, wrong), copied(wrong, wrong), copied(wrong, 0), copied(200, wrong), copied(wrong, 200))
	}
	return l
}

// mayNotBe are lists of pieces that may not be: of too many, of too many bytes, and those with a piece that may not be, behind and ahead of others.
func mayNotBe() [][]api.Piece {
	l := [][]api.Piece{
		slices.Repeat(list(text("a")), 61), slices.Repeat(list(copied(0, 1)), 61), slices.Repeat(list(text("a")), 1000), append(slices.Repeat(list(text("a")), 60), copied(0, 1)),
		list(copied(0, 100), copied(0, 101)), list(text(bytesOf(100)), text(bytesOf(101))), list(copied(0, 100), text(bytesOf(101))), list(text(bytesOf(101)), copied(0, 100)), list(copied(0, 200), text("a")), list(text(bytesOf(200)), copied(0, 1)),
		list(copied(0, 200), copied(0, 200)), list(text(bytesOf(200)), text(bytesOf(200))), slices.Repeat(list(copied(0, 200)), 60), slices.Repeat(list(text("abcd")), 51), append(slices.Repeat(list(copied(5, 4)), 50), text("a")),
		// Lens that together wrap around to few bytes.
		list(copied(0, math.MaxInt), copied(0, math.MaxInt), copied(0, 3)), list(copied(0, math.MinInt), copied(0, math.MinInt), text("a")), list(copied(0, -100), text(bytesOf(150)), text(bytesOf(150))), list(copied(0, -1), text("ab")),
	}
	for _, p := range mayNotBeOne() {
		l = append(l, list(p), list(text("a"), p), list(p, text("a")), list(copied(0, 8), p, text("b")), slices.Repeat(list(p), 61))
	}
	return l
}

// sparse are values of few letters, so that eight bytes come again in them, at places that begin a block and at others.
func sparse(dice *rand.Rand, most int) string {
	var s strings.Builder
	for s.Len() < most {
		switch dice.IntN(4) {
		case 0:
			s.WriteString("abcdefgh")
		case 1:
			s.WriteString("abcdefghijklmnop"[dice.IntN(2)*8:])
		case 2:
			s.WriteString(strings.Repeat("a", dice.IntN(20)))
		default:
			s.WriteString(scattered(dice.IntN(12)))
		}
	}
	return s.String()[:dice.IntN(most+1)]
}

// edited is a value that shares parts with another one: parts of it, at any place and of any length, and others between.
func edited(dice *rand.Rand, base string, most int) string {
	var s strings.Builder
	for s.Len() < most && dice.IntN(12) > 0 {
		from := dice.IntN(len(base) + 1)
		if dice.IntN(2) == 0 {
			from = from / 8 * 8
		}
		part := base[from:]
		part = part[:dice.IntN(len(part)+1)]
		switch dice.IntN(4) {
		case 0:
			s.WriteString(scattered(dice.IntN(9)))
		case 1:
			s.WriteByte("abcdefgh"[dice.IntN(8)])
		default:
			s.WriteString(part)
		}
	}
	return s.String()[:min(s.Len(), most)]
}

// toldMake is the chapter's words for a Make, with sign's Find at each place.
func toldMake(sig []api.Sig, s string) []api.Piece {
	var l []api.Piece
	for at := 0; at < len(s); {
		i := -1
		if at+8 <= len(s) {
			i = sign.Find(sig, s[at:at+8])
		}
		was := api.Piece{}
		if len(l) > 0 {
			was = l[len(l)-1]
		}
		switch {
		case i >= 0 && was.Copy && was.From+was.Len == 8*i:
			l[len(l)-1] = copied(was.From, was.Len+8)
		case i >= 0:
			l = append(l, copied(8*i, 8))
		case len(l) > 0 && !was.Copy:
			l[len(l)-1] = text(was.Lit + s[at:at+1])
		default:
			l = append(l, text(s[at:at+1]))
		}
		if i >= 0 {
			at += 8
		} else {
			at++
		}
	}
	return l
}

// toldMay is the chapter's words for pieces that may be. No single Len or Lit beyond 200 is added to the others.
func toldMay(l []api.Piece) bool {
	many := len(l) <= 60
	all := 0
	for _, p := range l {
		one := p.From == 0 && p.Len == 0 && len(p.Lit) != 0 && len(p.Lit) < 201
		if p.Copy {
			one = p.Lit == "" && 0 <= p.From && p.From < 201 && 0 < p.Len && p.Len < 201
		}
		if one {
			all += len(p.Lit) + p.Len
		}
		many = many && one
	}
	return many && all < 201
}

// toldApply is the chapter's words for an Apply.
func toldApply(base string, l []api.Piece) (string, bool) {
	is := toldMay(l)
	s := ""
	for _, p := range l {
		switch {
		case !is:
		case !p.Copy:
			s += p.Lit
		case p.From+p.Len > len(base):
			is = false
		default:
			s += base[p.From : p.From+p.Len]
		}
	}
	return s, is
}

// toldPut is pieces' bytes, whether they may be or not: what Get would get if it did not look.
func toldPut(l []api.Piece) []byte {
	b := toldNumber(uint64(len(l)))
	for _, p := range l {
		if p.Copy {
			b = append(b, 1)
			b = append(b, toldNumber(uint64(p.From))...)
			b = append(b, toldNumber(uint64(p.Len))...)
			continue
		}
		b = append(b, 0)
		b = append(b, toldNumber(uint64(len(p.Lit)))...)
		b = append(b, p.Lit...)
	}
	return b
}

// toldNumber is wire's Put by division.
func toldNumber(n uint64) []byte {
	b := []byte{byte(n % 128)}
	for n /= 128; n > 0; n /= 128 {
		b = slices.Insert(b, 0, byte(n%128)+128)
	}
	return b
}
