package delta_test

import (
	"bytes"
	"math"
	"slices"
	"strings"
	"testing"

	"rolodex/api"
	"rolodex/delta"
	"rolodex/sign"
)

// A text of a million bytes: each byte may be handled often, but not all of them for each.
func TestR1LongTexts(t *testing.T) {
	long := scattered(1 << 20)
	sig := sign.Of(long)
	checkMake(t, nil, long, list(text(long)))
	checkMake(t, sig, long, list(copied(0, 1<<20)))
	checkMake(t, sig, "-"+long[:1<<20-1], list(text("-"), copied(0, 1<<20-8), text(long[1<<20-8:1<<20-1])))
	checkMake(t, sig, bytesOf(1<<19), list(text(bytesOf(1<<19))))
	checkMake(t, sign.Of(scattered(200)), long[:1<<18], list(text(long[:1<<18])))
	zeros := strings.Repeat("\x00", 1<<18)
	checkMake(t, sign.Of(zeros), zeros, slices.Repeat(list(copied(0, 8)), 1<<15))

	checkApply(t, long, list(copied(200, 199), text("a")), long[200:399]+"a")
	checkApplyNone(t, long, list(text(long)))
	checkApplyNone(t, long, list(copied(0, 1<<20)))
	checkMay(t, slices.Repeat(list(text(long)), 1<<20), false)
	checkApplyNone(t, long, slices.Repeat(list(copied(0, 1)), 1<<20))
	checkSame(t, slices.Repeat(list(text(long)), 50), slices.Repeat(list(text(long)), 50), true)

	checkGetNone(t, append([]byte("\x01\x00"), append(toldNumber(1<<20), long...)...))
	checkGetNone(t, bytes.Repeat([]byte{0x80}, 1<<20))
	checkGetNone(t, bytes.Repeat([]byte{0xff}, 1<<20))
	checkGet(t, append([]byte("\x01\x00\x01a"), long...), list(text("a")), 4)
	checkGet(t, make([]byte, 1<<20), nil, 1)
}

func TestR1GreatNumbers(t *testing.T) {
	edges := []int{math.MinInt, math.MinInt + 1, -201, -200, -8, -1, 0, 1, 8, 200, 201, 1 << 31, 1 << 32, 1<<63 - 200, math.MaxInt - 1, math.MaxInt}
	for _, from := range edges {
		for _, many := range edges {
			for _, base := range []string{"", "a", alphabet, scattered(201), scattered(500)} {
				checkApplyTold(t, base, list(copied(from, many)))
				checkApplyTold(t, base, list(text("a"), copied(from, many), copied(many, from)))
				checkApplyTold(t, base, list(copied(from, many), copied(-from, -many), text("a")))
			}
			is := from >= 0 && from <= 200 && many >= 1 && many <= 200
			checkMay(t, list(copied(from, many)), is)
			checkMay(t, list(api.Piece{From: from, Len: many, Lit: "a"}), from == 0 && many == 0)
			checkSame(t, list(copied(from, many)), list(copied(many, from)), from == many)
		}
	}
}

func TestR1AnyBlocks(t *testing.T) {
	for _, sig := range [][]api.Sig{make([]api.Sig, 1000), slices.Repeat([]api.Sig{sign.One("")}, 30), {sign.One(alphabet)}, {{Weak: math.MaxUint32}}} {
		for _, s := range []string{"", "a", "\x00\x00\x00\x00\x00\x00\x00\x00", alphabet, scattered(300)} {
			checkMake(t, sig, s, toldMake(sig, s))
		}
	}
}

func TestR3MakeSharesNothing(t *testing.T) {
	for _, s := range []string{alphabet, "-" + alphabet, "ijklmnopabcdefgh--", scattered(200), ""} {
		sig := sign.Of(alphabet)
		l := delta.Make(sig, s)
		want := slices.Clone(l)
		again := delta.Make(sig, s)
		for i := range l {
			l[i] = copied(99, 99)
		}
		clear(l[:cap(l)])
		clear(sig)
		if !slices.Equal(again, want) {
			t.Errorf("%q: what was made is %s now; want %s", s, shown(again), shown(want))
		}
		checkMake(t, sign.Of(alphabet), s, want)
	}
}

func TestR3MakeLeavesTheBlocksAsTheyWere(t *testing.T) {
	sig := append(sign.Of(alphabet), sign.One("abcdefgh"), sign.One("--------"), api.Sig{})
	want := slices.Clone(sig)
	for _, s := range []string{alphabet, "--------", "----------------abcdefgh", scattered(100)} {
		delta.Make(sig[:3], s)
		delta.Make(sig, s)
		if !slices.Equal(sig, want) {
			t.Fatalf("Make of %q changed the blocks", s)
		}
	}
	// The blocks are those of now.
	checkMake(t, sig[:3], "abcdefgh", list(copied(0, 8)))
	sig[0], sig[2] = sig[2], sig[0]
	checkMake(t, sig[:3], "abcdefgh", list(copied(16, 8)))
	sig[2].Weak++
	checkMake(t, sig[:3], "abcdefgh", list(text("abcdefgh")))
}

func TestR3PiecesStayAsTheyWere(t *testing.T) {
	for _, l := range append(mayBe(), mayNotBe()...) {
		long := append(slices.Clone(l), text("behind"), copied(7, 7))
		want := slices.Clone(long)
		part := long[:len(l)]
		delta.May(part)
		delta.Apply(alphabet, part)
		delta.Apply(scattered(400), part)
		delta.Put(part)
		delta.Same(part, part)
		if !slices.Equal(long, want) {
			t.Fatalf("%s are %s now", shown(want), shown(long))
		}
	}
}

func TestR3PutAndGetShareNothing(t *testing.T) {
	for _, l := range mayBe() {
		b, _ := delta.Put(l)
		want := bytes.Clone(b)
		again, _ := delta.Put(l)
		got, _, _ := delta.Get(b)
		if !bytes.Equal(b, want) {
			t.Errorf("Get changed % x to % x", want, b)
		}
		first, _, _ := delta.Get(b)
		clear(first)
		clear(first[:cap(first)])
		for i := range b[:cap(b)] {
			b[:cap(b)][i] = 'z'
		}
		if !bytes.Equal(again, want) {
			t.Errorf("what was put of %s is % x now", shown(l), again)
		}
		if !slices.Equal(got, l) {
			t.Errorf("what was got of % x is %s now; want %s", want, shown(got), shown(l))
		}
		checkPut(t, l, string(want))
		checkGet(t, want, l, len(want))
	}
}

// Nothing hangs on what was asked before.
func TestR5AskedAgain(t *testing.T) {
	samples := append(mayBe(), mayNotBe()...)
	ask := func(l []api.Piece) string {
		s, is := delta.Apply(scattered(300), l)
		b, put := delta.Put(l)
		got, used, ok := delta.Get(b)
		made := delta.Make(sign.Of(alphabet), s+alphabet)
		return strings.Join([]string{s, string(b), shown(got), shown(made), string(toldNumber(uint64(used)))}, "|") + tell(is) + tell(put) + tell(ok) + tell(delta.May(l)) + tell(delta.Same(l, samples[9]))
	}
	var first []string
	for _, l := range samples {
		first = append(first, ask(l))
	}
	for i := len(samples) - 1; i >= 0; i-- {
		if again := ask(samples[i]); again != first[i] {
			t.Errorf("%s: asked again it is %q", shown(samples[i]), again)
		}
	}
}

func tell(is bool) string {
	if is {
		return "+"
	}
	return "-"
}
