package sign_test

import (
	"crypto/sha256"
	"encoding/hex"
	"math/rand/v2"
	"slices"
	"strings"
	"testing"

	"rolodex/api"
	"rolodex/roll"
	"rolodex/sha"
	"rolodex/sign"
)

// scattered is many bytes of which no two neighbours hang on each other.
func scattered(many int) string {
	b := make([]byte, many)
	n := uint64(many)
	for i := range b {
		n = n*6364136223846793005 + 1442695040888963407
		b[i] = byte(n >> 56)
	}
	return string(b)
}

// toldOne is the chapter's words for a One, with the check by multiplying and the digest of Go's own library.
func toldOne(part string) api.Sig {
	a, b := uint64(0), uint64(0)
	for i, x := range []byte(part) {
		a += uint64(x)
		b += uint64(len(part)-i) * uint64(x)
	}
	return api.Sig{Weak: uint32(b%65536*65536 + a%65536), Strong: sha256.Sum256([]byte(part))}
}

// toldOf is the chapter's words for an Of: eight bytes from each multiple of eight on that has as many behind it.
func toldOf(s string) []api.Sig {
	var l []api.Sig
	for at := range len(s) {
		if len(s) >= 24 && at%8 == 0 && at+8 <= len(s) {
			l = append(l, toldOne(s[at:at+8]))
		}
	}
	return l
}

// toldFind goes through all blocks, from the last one on.
func toldFind(l []api.Sig, part string) int {
	found := -1
	one := toldOne(part)
	for i := len(l) - 1; i >= 0 && len(part) == 8; i-- {
		if l[i].Weak == one.Weak && l[i].Strong == one.Strong {
			found = i
		}
	}
	return found
}

func parts() []string {
	return []string{
		"", "a", "b", "\x00", "\x80", "\xff", "ab", "ba", "abcdefg", "abcdefgh", "abcdefghi", "hgfedcba", "aaaaaaaa",
		strings.Repeat("\x00", 8), strings.Repeat("\x80", 8), strings.Repeat("\xff", 8), "\x7f\x80\x81\xff\xfe\x00\x01\x02",
		"\u00e9\u20ac\U0001f600", "\xc3\x28\xff\xfe\x80", scattered(16), scattered(24), scattered(200), scattered(601),
		strings.Repeat("\xff", 300), strings.Repeat("abcdefgh", 50),
	}
}

func values() []string {
	return []string{
		"", "a", "abcdefgh", "abcdefghijklmnop", scattered(23), scattered(24), scattered(25), scattered(31), scattered(32), scattered(33),
		scattered(40), scattered(199), scattered(200), scattered(201), scattered(700), strings.Repeat("\x00", 24), strings.Repeat("\xff", 100),
		strings.Repeat("abcdefgh", 12), strings.Repeat("abcdefghijklmnop", 5) + "abc", "xabcdefghijklmnopqrstuvw", strings.Repeat("ab", 30),
		strings.Repeat("\x80\x81\xfe\xff", 13), strings.Repeat("\u20ac", 20), "abcdefgh12345678abcdefgh12345678zzzzzzzz12345678",
	}
}

func checkOne(t *testing.T, part string) {
	t.Helper()
	got := sign.One(part)
	if got != toldOne(part) {
		t.Errorf("One of %d bytes, %.40q = %v; want %v", len(part), part, got, toldOne(part))
	}
	if got.Weak != roll.Sum(part) || got.Strong != sha.Of(part) {
		t.Errorf("One of %d bytes, %.40q = %v; roll's Sum is %d, and sha's digest %x", len(part), part, got, roll.Sum(part), sha.Of(part))
	}
}

func checkOf(t *testing.T, s string, many int) {
	t.Helper()
	l := sign.Of(s)
	if len(l) != many || !slices.Equal(l, toldOf(s)) {
		t.Errorf("Of %d bytes, %.40q: %d blocks, %v; want %d, %v", len(s), s, len(l), l, many, toldOf(s))
		return
	}
	for i, block := range l {
		if block != sign.One(s[8*i:8*i+8]) {
			t.Errorf("Of %d bytes, %.40q: the block %d is not that of %q", len(s), s, i, s[8*i:8*i+8])
		}
	}
}

func checkFind(t *testing.T, l []api.Sig, part string, want int) {
	t.Helper()
	if i := sign.Find(l, part); i != want {
		t.Errorf("Find among %d blocks, %.40q = %d; want %d", len(l), part, i, want)
	}
}

func TestP10_1OneExamples(t *testing.T) {
	for _, x := range []struct {
		part   string
		weak   uint32
		strong string
	}{
		{"", 0, "e3b0c44298fc1c149afbf4c8996fb92427ae41e4649b934ca495991b7852b855"},
		{"a", 97*65536 + 97, "ca978112ca1bbdcafac231b39a23dc4da786eff8147c4e72b9807785afee48bb"},
		{"abc", 586*65536 + 294, "ba7816bf8f01cfea414140de5dae2223b00361a396177a9cb410ff61f20015ad"},
		{"abcdefgh", 3576*65536 + 804, "9c56cc51b374c3ba189210d5b6d4bf57790d351c96c47c02190ecf1e430635ab"},
	} {
		got := sign.One(x.part)
		if got.Weak != x.weak || hex.EncodeToString(got.Strong[:]) != x.strong {
			t.Errorf("One(%q) = %d, %x; want %d, %s", x.part, got.Weak, got.Strong, x.weak, x.strong)
		}
	}
}

func TestP10_1One(t *testing.T) {
	for _, part := range parts() {
		checkOne(t, part)
	}
	for one := range 256 {
		checkOne(t, string([]byte{byte(one)}))
		checkOne(t, "abc"+string([]byte{byte(one)})+"defg")
	}
	for many := range 400 {
		checkOne(t, scattered(many))
	}
}

func TestP10_1OfShortValues(t *testing.T) {
	for many := range 24 {
		checkOf(t, scattered(many), 0)
		checkOf(t, strings.Repeat("\x00", many), 0)
	}
	for _, s := range []string{"", "a", "abcdefgh", "abcdefghijklmnop", "abcdefghijklmnopqrstuvw"} {
		checkOf(t, s, 0)
	}
}

func TestP10_1OfExamples(t *testing.T) {
	checkOf(t, "abcdefghijklmnopqrstuvwx", 3)
	for _, x := range []struct {
		s    string
		want []string
	}{
		{"abcdefghijklmnopqrstuvw", nil},
		{"abcdefghijklmnopqrstuvwx", []string{"abcdefgh", "ijklmnop", "qrstuvwx"}},
		{"abcdefghijklmnopqrstuvwxy", []string{"abcdefgh", "ijklmnop", "qrstuvwx"}},
		{"abcdefghijklmnopqrstuvwxyzABCDE", []string{"abcdefgh", "ijklmnop", "qrstuvwx"}},
		{"abcdefghijklmnopqrstuvwxyzABCDEF", []string{"abcdefgh", "ijklmnop", "qrstuvwx", "yzABCDEF"}},
		{"aaaaaaaaaaaaaaaaaaaaaaaa", []string{"aaaaaaaa", "aaaaaaaa", "aaaaaaaa"}},
		{"\u20ac\u20ac\u20ac\u20ac\u20ac\u20ac\u20ac\u20ac", []string{"\xe2\x82\xac\xe2\x82\xac\xe2\x82", "\xac\xe2\x82\xac\xe2\x82\xac\xe2", "\x82\xac\xe2\x82\xac\xe2\x82\xac"}},
	} {
		l := sign.Of(x.s)
		if len(l) != len(x.want) {
			t.Errorf("Of(%q): %d blocks; want %d", x.s, len(l), len(x.want))
			continue
		}
		for i, part := range x.want {
			if l[i] != toldOne(part) {
				t.Errorf("Of(%q): the block %d is not that of %q", x.s, i, part)
			}
		}
	}
}

func TestP10_1OfManyLengths(t *testing.T) {
	for _, x := range []struct{ length, many int }{
		{24, 3}, {25, 3}, {31, 3}, {32, 4}, {33, 4}, {39, 4}, {40, 5}, {41, 5}, {192, 24}, {199, 24}, {200, 25}, {201, 25}, {207, 25}, {208, 26}, {700, 87}, {65536, 8192}, {65543, 8192},
	} {
		checkOf(t, scattered(x.length), x.many)
	}
	for length := 24; length < 300; length++ {
		checkOf(t, scattered(length), length/8)
	}
}

// What is left behind the last eight changes no block, and any other byte changes its own block alone.
func TestP10_1EachByteIsOfItsBlock(t *testing.T) {
	s := []byte(scattered(45))
	was := sign.Of(string(s))
	for i := range s {
		s[i] ^= 1
		for k, block := range sign.Of(string(s)) {
			if same := block == was[k]; same != (i/8 != k) {
				t.Errorf("the byte %d is another one: the block %d is as it was: %v", i, k, same)
			}
		}
		s[i] ^= 1
	}
}

// Even a block that is One of just that part isn't it.
func TestP10_2FindOfNotEightBytes(t *testing.T) {
	for _, part := range parts() {
		l := []api.Sig{toldOne(part), {}, toldOne("abcdefgh"), toldOne(part)}
		want := -1
		if len(part) == 8 {
			want = 0
		}
		checkFind(t, l, part, want)
		checkFind(t, l[:1], part, want)
	}
	for many := range 40 {
		part := scattered(many)
		want := -1
		if many == 8 {
			want = 0
		}
		checkFind(t, []api.Sig{toldOne(part)}, part, want)
	}
	for _, many := range []int{7, 8, 9, 16, 264, 65544} {
		part := strings.Repeat("a", many)
		checkFind(t, []api.Sig{toldOne(part), toldOne("aaaaaaaa")}, part[:many], toldFind([]api.Sig{toldOne(part), toldOne("aaaaaaaa")}, part))
	}
	checkFind(t, []api.Sig{{}}, "", -1)
	checkFind(t, nil, "", -1)
}

func TestP10_2FindAmongNone(t *testing.T) {
	for _, part := range parts() {
		checkFind(t, nil, part, -1)
		checkFind(t, []api.Sig{}, part, -1)
		checkFind(t, sign.Of("abcdefgh"), part, -1)
	}
}

func TestP10_2FindExamples(t *testing.T) {
	l := sign.Of("abcdefgh12345678abcdefghzzzzzzzz12345678ABCDEFGH")
	for _, x := range []struct {
		part string
		want int
	}{
		{"abcdefgh", 0}, {"12345678", 1}, {"zzzzzzzz", 3}, {"ABCDEFGH", 5},
		{"bcdefgh1", -1}, {"abcdefgH", -1}, {"hgfedcba", -1}, {"zzzzzzz", -1}, {"zzzzzzzzz", -1}, {"abcdefgh12345678", -1}, {"", -1}, {strings.Repeat("\x00", 8), -1},
	} {
		checkFind(t, l, x.part, x.want)
		checkFind(t, l, x.part, toldFind(l, x.part))
	}
}

func TestP10_2FindAtEachPlace(t *testing.T) {
	for _, many := range []int{1, 2, 3, 8, 25, 300} {
		s := scattered(8 * many)
		var l []api.Sig
		for i := range many {
			l = append(l, toldOne(s[8*i:8*i+8]))
		}
		for i := range many {
			checkFind(t, l, s[8*i:8*i+8], i)
			checkFind(t, l[:i], s[8*i:8*i+8], -1)
			checkFind(t, l[i+1:], s[8*i:8*i+8], -1)
			checkFind(t, l[i:], s[8*i:8*i+8], 0)
		}
		checkFind(t, l, "not here", -1)
	}
}

func TestP10_2FindTheFirstOfSeveral(t *testing.T) {
	one, other := toldOne("abcdefgh"), toldOne("ijklmnop")
	for many := range 7 {
		// Each of the blocks is the one or the other one.
		for which := range 1 << many {
			var l []api.Sig
			first := [2]int{-1, -1}
			for i := range many {
				bit := which >> i & 1
				l = append(l, [2]api.Sig{one, other}[bit])
				if first[bit] < 0 {
					first[bit] = i
				}
			}
			checkFind(t, l, "abcdefgh", first[0])
			checkFind(t, l, "ijklmnop", first[1])
			checkFind(t, l, "qrstuvwx", -1)
		}
	}
}

// A byte more, two less and one more again, side by side, leave both sums as they were.
func TestP10_2FindWhereTheWeakIsTheSame(t *testing.T) {
	part, like := "bbbbbbbb", "c`cbbbbb"
	if roll.Sum(part) != roll.Sum(like) {
		t.Fatalf("their checks are not the same: %d, %d", roll.Sum(part), roll.Sum(like))
	}
	checkFind(t, []api.Sig{toldOne(like)}, part, -1)
	checkFind(t, []api.Sig{toldOne(part)}, like, -1)
	checkFind(t, []api.Sig{toldOne(like), toldOne(part)}, part, 1)
	checkFind(t, []api.Sig{toldOne(like), toldOne(part)}, like, 0)
	for i := range 32 {
		for bit := range 8 {
			block := toldOne("abcdefgh")
			block.Strong[i] ^= 1 << bit
			checkFind(t, []api.Sig{block}, "abcdefgh", -1)
			checkFind(t, []api.Sig{block, toldOne("abcdefgh")}, "abcdefgh", 1)
		}
	}
	checkFind(t, []api.Sig{{Weak: toldOne("abcdefgh").Weak}}, "abcdefgh", -1)
}

func TestP10_2FindWhereTheStrongIsTheSame(t *testing.T) {
	for bit := range 32 {
		block := toldOne("abcdefgh")
		block.Weak ^= 1 << bit
		checkFind(t, []api.Sig{block}, "abcdefgh", -1)
		checkFind(t, []api.Sig{block, block, toldOne("abcdefgh"), toldOne("abcdefgh")}, "abcdefgh", 2)
	}
	checkFind(t, []api.Sig{{Strong: toldOne("abcdefgh").Strong}}, "abcdefgh", -1)
	checkFind(t, []api.Sig{{Strong: toldOne("abcdefgh").Strong}, {Weak: toldOne("abcdefgh").Weak}}, "abcdefgh", -1)
	// A part without a bit has the Weak of a zero block, and another Strong.
	checkFind(t, []api.Sig{{}}, strings.Repeat("\x00", 8), -1)
	checkFind(t, []api.Sig{{}, toldOne(strings.Repeat("\x00", 8))}, strings.Repeat("\x00", 8), 1)
}

func TestP10_2FindOfAnything(t *testing.T) {
	dice := rand.New(rand.NewPCG(10, 30))
	// Few letters, so that parts come again.
	word := func() string {
		b := []byte("aaaaaaaa")
		b[dice.IntN(8)] += byte(dice.IntN(3))
		return string(b)[:8-dice.IntN(20)/19]
	}
	for range 3000 {
		var l []api.Sig
		for range dice.IntN(30) {
			block := toldOne(word())
			switch dice.IntN(8) {
			case 0:
				block.Weak++
			case 1:
				block.Strong[dice.IntN(32)]++
			}
			l = append(l, block)
		}
		part := word()
		checkFind(t, l, part, toldFind(l, part))
	}
}

// checkFound holds that each block of a value is found at its place, or ahead of it where the same eight bytes stand.
func checkFound(t *testing.T, s string) {
	t.Helper()
	l := sign.Of(s)
	for i := range l {
		part := s[8*i : 8*i+8]
		place := sign.Find(l, part)
		if place < 0 || place > i || s[8*place:8*place+8] != part {
			t.Errorf("%.40q: the block %d is found at %d", s, i, place)
			continue
		}
		for k := range place {
			if s[8*k:8*k+8] == part {
				t.Errorf("%.40q: the block %d is found at %d, and stands at %d", s, i, place, k)
			}
		}
	}
}

func TestP10_3EachBlockIsFound(t *testing.T) {
	for _, s := range values() {
		checkFound(t, s)
	}
	for length := 24; length < 220; length++ {
		checkFound(t, scattered(length))
		checkFound(t, strings.Repeat("abcdefghijklmnopqrst", length/20+1)[:length])
	}
}

func TestP10_3BlocksThatComeAgain(t *testing.T) {
	for _, x := range []struct {
		s      string
		places []int
	}{
		{strings.Repeat("a", 47), []int{0, 0, 0, 0, 0}},
		{"abcdefghABCDEFGHabcdefghABCDEFGH", []int{0, 1, 0, 1}},
		{"abcdefghABCDEFGHABCDEFGHabcdefgh12345678ABCDEFGH12345678", []int{0, 1, 1, 0, 4, 1, 4}},
		{"bbbbbbbbc`cbbbbbbbbbbbbbc`cbbbbb", []int{0, 1, 0, 1}},
		{strings.Repeat("\x00", 8) + strings.Repeat("\xff", 16) + strings.Repeat("\x00", 8), []int{0, 1, 1, 0}},
	} {
		l := sign.Of(x.s)
		if len(l) != len(x.places) {
			t.Errorf("%q: %d blocks; want %d", x.s, len(l), len(x.places))
			continue
		}
		for i, want := range x.places {
			checkFind(t, l, x.s[8*i:8*i+8], want)
		}
	}
}

func FuzzAnyValue(f *testing.F) {
	for _, s := range values() {
		f.Add(s, s)
		f.Add(s, s[:min(8, len(s))])
		f.Add(s, s[:min(9, len(s))])
		f.Add(s, s[max(0, len(s)-8):])
	}
	f.Fuzz(func(t *testing.T, s, part string) {
		checkOne(t, s)
		many := len(s) / 8
		if len(s) < 24 {
			many = 0
		}
		checkOf(t, s, many)
		checkFound(t, s)
		l := sign.Of(s)
		checkFind(t, l, part, toldFind(l, part))
		checkFind(t, append(l, toldOne(part)), part, toldFind(append(l, toldOne(part)), part))
	})
}

func TestR3NothingIsShared(t *testing.T) {
	for _, s := range values() {
		first := sign.Of(s)
		want := slices.Clone(first)
		second := sign.Of(s)
		clear(append(first, api.Sig{Weak: 1}))
		clear(first)
		clear(first[:cap(first)])
		if !slices.Equal(second, want) {
			t.Errorf("%.40q: what was answered is %v now; want %v", s, second, want)
		}
		if again := sign.Of(s); !slices.Equal(again, want) {
			t.Errorf("%.40q: Of answers %v now; want %v", s, again, want)
		}
	}
}

func TestR3FindLeavesTheBlocksAsTheyWere(t *testing.T) {
	for _, s := range values() {
		l := append(sign.Of(s), toldOne("abcdefgh"), toldOne("abc"), api.Sig{}, toldOne("abcdefgh"))
		l = append(l, l...)
		want := slices.Clone(l)
		for _, part := range append(parts(), s[:min(8, len(s))]) {
			sign.Find(l[:len(l)-2], part)
			if !slices.Equal(l, want) {
				t.Fatalf("%.40q: Find of %.40q changed the blocks", s, part)
			}
		}
	}
}

// What is found hangs on the blocks as they are now.
func TestR3BlocksMayBeChangedBetween(t *testing.T) {
	l := sign.Of("abcdefghijklmnopqrstuvwx")
	checkFind(t, l, "ijklmnop", 1)
	l[1].Weak++
	checkFind(t, l, "ijklmnop", -1)
	l[2] = toldOne("ijklmnop")
	checkFind(t, l, "ijklmnop", 2)
	l[0] = l[2]
	checkFind(t, l, "ijklmnop", 0)
	checkFind(t, l, "abcdefgh", -1)
}

// Nothing hangs on what was asked before.
func TestR5AskedAgain(t *testing.T) {
	l := values()
	ask := func(s string) []int {
		blocks := sign.Of(s)
		places := []int{len(blocks), int(sign.One(s).Weak)}
		for _, part := range parts() {
			places = append(places, sign.Find(append(blocks, sign.One("abcdefgh")), part))
		}
		return places
	}
	var first [][]int
	for _, s := range l {
		first = append(first, ask(s))
	}
	for i := len(l) - 1; i >= 0; i-- {
		if again := ask(l[i]); !slices.Equal(again, first[i]) {
			t.Errorf("%.40q: asked again it is %v", l[i], again)
		}
	}
}
