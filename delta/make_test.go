package delta_test

import (
	"math/rand/v2"
	"slices"
	"strings"
	"testing"

	"rolodex/api"
	"rolodex/delta"
	"rolodex/sign"
)

func checkMake(t *testing.T, sig []api.Sig, s string, want []api.Piece) {
	t.Helper()
	if l := delta.Make(sig, s); !slices.Equal(l, want) {
		t.Errorf("Make of %d blocks, %.60q = %s; want %s", len(sig), s, shown(l), shown(want))
	}
}

func TestP11_2MakeOfNoBytes(t *testing.T) {
	checkMake(t, nil, "", nil)
	checkMake(t, []api.Sig{}, "", nil)
	checkMake(t, sign.Of(alphabet), "", nil)
	checkMake(t, []api.Sig{{}, sign.One("")}, "", nil)
}

func TestP11_2MakeOfSevenBytes(t *testing.T) {
	for many := 1; many < 8; many++ {
		checkMake(t, sign.Of(alphabet), alphabet[:many], list(text(alphabet[:many])))
		checkMake(t, sign.Of(alphabet), alphabet[8:8+many], list(text(alphabet[8:8+many])))
		checkMake(t, []api.Sig{sign.One(alphabet[:many]), sign.One("a"), {}}, alphabet[:many], list(text(alphabet[:many])))
		checkMake(t, nil, alphabet[:many], list(text(alphabet[:many])))
	}
}

func TestP11_2MakeOfTheValueItself(t *testing.T) {
	for length := 24; length <= 260; length++ {
		s := scattered(length)
		whole := length / 8 * 8
		want := list(copied(0, whole))
		if whole < length {
			want = append(want, text(s[whole:]))
		}
		checkMake(t, sign.Of(s), s, want)
		checkMake(t, sign.Of(s), s[:whole], want[:1])
	}
	checkMake(t, sign.Of(alphabet), alphabet[:8], list(copied(0, 8)))
	checkMake(t, sign.Of(alphabet), alphabet, list(copied(0, 24), text("yz")))
	// A value of fewer than 24 bytes has no blocks.
	checkMake(t, sign.Of(alphabet[:23]), alphabet[:23], list(text(alphabet[:23])))
}

func TestP11_2MakeWithBytesAhead(t *testing.T) {
	for many := 1; many < 30; many++ {
		ahead := strings.Repeat("-", many)
		checkMake(t, sign.Of(alphabet), ahead+alphabet, list(text(ahead), copied(0, 24), text("yz")))
		checkMake(t, sign.Of(alphabet), ahead+alphabet[8:24], list(text(ahead), copied(8, 16)))
	}
	checkMake(t, sign.Of(alphabet[:24]), "xabcdefghijklmnop", list(text("x"), copied(0, 16)))
	checkMake(t, sign.Of(alphabet), "abcdefg"+alphabet, list(text("abcdefg"), copied(0, 24), text("yz")))
}

func TestP11_2MakeWithBytesBetween(t *testing.T) {
	for _, between := range []string{"-", "\x00", "abcdefg", "ijklmno", "bcdefghi", "\xff\xfe\xfd", strings.Repeat("-", 50)} {
		checkMake(t, sign.Of(alphabet), "abcdefgh"+between+"ijklmnop", list(copied(0, 8), text(between), copied(8, 8)))
		checkMake(t, sign.Of(alphabet), "abcdefgh"+between+"abcdefgh", list(copied(0, 8), text(between), copied(0, 8)))
		checkMake(t, sign.Of(alphabet), alphabet[:16]+between+alphabet[16:], list(copied(0, 16), text(between), copied(16, 8), text("yz")))
		checkMake(t, sign.Of(alphabet), between+"qrstuvwx"+between+"ijklmnop"+between, list(text(between), copied(16, 8), text(between), copied(8, 8), text(between)))
	}
	checkMake(t, sign.Of(alphabet), "abcd-efghijklmnop", list(text("abcd-efgh"), copied(8, 8)))
}

func TestP11_2MakeOfBlocksThatDoNotLieSideBySide(t *testing.T) {
	for _, x := range []struct {
		s    string
		want []api.Piece
	}{
		{"ijklmnopabcdefgh", list(copied(8, 8), copied(0, 8))},
		{"abcdefghqrstuvwx", list(copied(0, 8), copied(16, 8))},
		{"qrstuvwxabcdefghijklmnop", list(copied(16, 8), copied(0, 16))},
		{"ijklmnopqrstuvwxabcdefghijklmnop", list(copied(8, 16), copied(0, 16))},
		{"abcdefghabcdefgh", list(copied(0, 8), copied(0, 8))},
		{"ijklmnopijklmnopijklmnop", list(copied(8, 8), copied(8, 8), copied(8, 8))},
		{"abcdefghijklmnopijklmnopqrstuvwx", list(copied(0, 16), copied(8, 16))},
		{"ijklmnopqrstuvwxqrstuvwxabcdefgh", list(copied(8, 16), copied(16, 8), copied(0, 8))},
	} {
		checkMake(t, sign.Of(alphabet), x.s, x.want)
	}
}

func TestP11_2MakeWhereTheSameBytesStandAtSeveralPlaces(t *testing.T) {
	base := "abcdefghABCDEFGHabcdefghABCDEFGHabcdefgh12345678"
	for _, x := range []struct {
		s    string
		want []api.Piece
	}{
		{"abcdefgh", list(copied(0, 8))},
		{"-ABCDEFGH", list(text("-"), copied(8, 8))},
		{base, list(copied(0, 16), copied(0, 16), copied(0, 8), copied(40, 8))},
		{"ABCDEFGHabcdefgh", list(copied(8, 8), copied(0, 8))},
		{"abcdefgh12345678", list(copied(0, 8), copied(40, 8))},
	} {
		checkMake(t, sign.Of(base), x.s, x.want)
	}
	for many := 24; many < 100; many++ {
		want := slices.Repeat(list(copied(0, 8)), many/8)
		if many%8 > 0 {
			want = append(want, text(strings.Repeat("a", many%8)))
		}
		checkMake(t, sign.Of(strings.Repeat("a", 50)), strings.Repeat("a", many), want)
	}
	for many := 2; many < 30; many++ {
		for first := range many {
			l := make([]api.Sig, first, many)
			for range many - first {
				l = append(l, sign.One("abcdefgh"))
			}
			checkMake(t, l, "abcdefgh-abcdefgh", list(copied(8*first, 8), text("-"), copied(8*first, 8)))
		}
	}
}

func TestP11_2MakeWithoutBlocks(t *testing.T) {
	for _, s := range []string{"a", "abcdefg", "abcdefgh", "abcdefghi", alphabet, scattered(200), scattered(201), scattered(5000), strings.Repeat("\x00", 64)} {
		checkMake(t, nil, s, list(text(s)))
		checkMake(t, []api.Sig{}, s, list(text(s)))
		checkMake(t, sign.Of("abcdefghabcdefghabcdefg"), s, list(text(s)))
	}
}

func TestP11_2MakeWithBlocksOfAnotherText(t *testing.T) {
	for _, s := range []string{"a", "abcdefg", "bcdefghi", "hgfedcba", "abcdefgH", "\x00\x00\x00\x00\x00\x00\x00\x00", strings.ToUpper(alphabet), alphabet[1:8] + alphabet[9:20], scattered(200), scattered(1000)} {
		checkMake(t, sign.Of(alphabet), s, list(text(s)))
		checkMake(t, sign.Of(scattered(300)), s, list(text(s)))
		checkMake(t, []api.Sig{{}, sign.One(""), sign.One("a"), sign.One(s + s), {Weak: sign.One("bcdefghi").Weak}, {Strong: sign.One("bcdefghi").Strong}}, s, list(text(s)))
	}
	// Of these two parts the rolling checks are the same.
	checkMake(t, []api.Sig{sign.One("c`cbbbbb")}, "bbbbbbbb", list(text("bbbbbbbb")))
	checkMake(t, []api.Sig{sign.One("c`cbbbbb"), sign.One("bbbbbbbb")}, "bbbbbbbb", list(copied(8, 8)))
	for bit := range 8 {
		block := sign.One("abcdefgh")
		block.Strong[31-bit] ^= 1 << bit
		checkMake(t, []api.Sig{block}, "abcdefgh", list(text("abcdefgh")))
		block = sign.One("abcdefgh")
		block.Weak ^= 1 << (4 * bit)
		checkMake(t, []api.Sig{block}, "abcdefgh", list(text("abcdefgh")))
	}
}

// It goes on behind what was found, also where another block begins within that.
func TestP11_2MakeFromTheFirstByteOn(t *testing.T) {
	l := []api.Sig{sign.One("aaaaaaab"), sign.One("abcdefgh"), sign.One("cdefghij")}
	for _, x := range []struct {
		s    string
		want []api.Piece
	}{
		{"aaaaaaabcdefgh", list(copied(0, 8), text("cdefgh"))},
		{"aaaaaaabcdefghij", list(copied(0, 8), copied(16, 8))},
		{"baaaaaaabcdefghij", list(text("b"), copied(0, 8), copied(16, 8))},
		{"-aaaaaabcdefghij", list(text("-aaaaa"), copied(8, 8), text("ij"))},
		{"abcdefghijcdefghij", list(copied(8, 8), text("ij"), copied(16, 8))},
		{"aaaaaaaaaaaaaaab", list(text("aaaaaaaa"), copied(0, 8))},
	} {
		checkMake(t, l, x.s, x.want)
	}
}

// A text is no copy, though it may end at the place that a copy begins at, or the other way round.
func TestP11_2MakePutsNoTextAndCopyTogether(t *testing.T) {
	for _, x := range []struct {
		s    string
		want []api.Piece
	}{
		{"--------ijklmnop", list(text("--------"), copied(8, 8))},
		{"----------------qrstuvwx", list(text("----------------"), copied(16, 8))},
		{"abcdefgh--------", list(copied(0, 8), text("--------"))},
		{"abcdefgh--------qrstuvwx", list(copied(0, 8), text("--------"), copied(16, 8))},
		{"abcdefgh-ijklmnop-", list(copied(0, 8), text("-"), copied(8, 8), text("-"))},
		{"-abcdefgh--ijklmnop---", list(text("-"), copied(0, 8), text("--"), copied(8, 8), text("---"))},
	} {
		checkMake(t, sign.Of(alphabet), x.s, x.want)
	}
}

// What is made is not bounded: there are pieces of long values, too, that may not be.
func TestP11_2MakeOfLongValues(t *testing.T) {
	s := scattered(1000)
	checkMake(t, sign.Of(s), s, list(copied(0, 1000)))
	checkMake(t, sign.Of(s), "-"+s[800:], list(text("-"), copied(800, 200)))
	checkMake(t, sign.Of(s), s[801:], append(list(text(s[801:808])), copied(808, 192)))
	checkMake(t, sign.Of(alphabet), bytesOf(201)+alphabet[:8], list(text(bytesOf(201)), copied(0, 8)))
	checkMake(t, sign.Of(alphabet), strings.Repeat("-abcdefgh", 70), slices.Repeat(list(text("-"), copied(0, 8)), 70))
}

func TestP11_2MakeOfAnything(t *testing.T) {
	dice := rand.New(rand.NewPCG(11, 3))
	for range 2500 {
		base := sparse(dice, 200)
		sig := sign.Of(base)
		switch dice.IntN(8) {
		case 0:
			sig = append(sig, sign.One("abcdefgh"), api.Sig{})
		case 1:
			slices.Reverse(sig)
		}
		s := sparse(dice, 120)
		checkMake(t, sig, s, toldMake(sig, s))
		s = edited(dice, base, 120)
		checkMake(t, sig, s, toldMake(sig, s))
	}
}

// checkMade holds that what is made of base's blocks may be, makes s out of base, and is got of what is put.
func checkMade(t *testing.T, base, s string) {
	t.Helper()
	l := delta.Make(sign.Of(base), s)
	if !delta.May(l) {
		t.Errorf("out of %q, %q: %s may not be", base, s, shown(l))
		return
	}
	if got, is := delta.Apply(base, l); got != s || !is {
		t.Errorf("out of %q, %q: %s make %q, %t", base, s, shown(l), got, is)
	}
	b, is := delta.Put(l)
	got, used, ok := delta.Get(append(b, "behind"...))
	if !is || !ok || used != len(b) || !delta.Same(got, l) {
		t.Errorf("out of %q, %q: %s are put as % x, %t, and got as %s, %d, %t", base, s, shown(l), b, is, shown(got), used, ok)
	}
}

func TestP11_4WhatIsMadeMakesTheValue(t *testing.T) {
	l := []string{
		"", "a", "abcdefgh", alphabet, alphabet[1:], alphabet[:24], alphabet[:23], alphabet + alphabet, strings.Repeat("a", 200), strings.Repeat("abcdefgh", 25), strings.Repeat("abcdefghi", 22), strings.Repeat("-abcdefgh", 22),
		scattered(24), scattered(199), scattered(200), scattered(200)[100:] + scattered(200)[:100], strings.Repeat("\x00", 199), strings.Repeat("\xff\x00", 100), strings.Repeat("\u20ac", 66), scattered(100) + scattered(100), "ijklmnopabcdefgh" + alphabet,
	}
	for _, base := range l {
		for _, s := range l {
			checkMade(t, base, s)
		}
	}
}

func TestP11_4OfEachCut(t *testing.T) {
	base := scattered(200)
	for at := range 201 {
		checkMade(t, base, base[at:])
		checkMade(t, base, base[:at])
		checkMade(t, base, base[at:]+base[:at])
		checkMade(t, base[:at], base)
		checkMade(t, base[at:], base)
		if at < 200 {
			checkMade(t, base, base[:at]+"-"+base[at+1:])
			checkMade(t, base, base[:at]+base[at+1:])
			checkMade(t, base, base[:at]+"-"+base[at:199])
		}
	}
}

func TestP11_4OfManyValues(t *testing.T) {
	dice := rand.New(rand.NewPCG(11, 4))
	for range 4000 {
		base := sparse(dice, 200)
		checkMade(t, base, edited(dice, base, 200))
		checkMade(t, base, sparse(dice, 200))
		base = scattered(dice.IntN(201))
		checkMade(t, base, edited(dice, base, 200))
	}
}

func FuzzAnyValues(f *testing.F) {
	f.Add(alphabet, "xabcdefghijklmnop")
	f.Add(scattered(200), scattered(200)[7:])
	f.Add(strings.Repeat("a", 50), strings.Repeat("a", 33))
	f.Add("", "")
	f.Fuzz(func(t *testing.T, base, s string) {
		sig := sign.Of(base)
		checkMake(t, sig, s, toldMake(sig, s))
		checkMade(t, base[:min(len(base), 200)], s[:min(len(s), 200)])
	})
}
