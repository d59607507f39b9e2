package roll_test

import (
	"math"
	"math/rand/v2"
	"slices"
	"strings"
	"testing"

	"rolodex/roll"
)

const wrap = 65536

// scattered is many bytes of which no two neighbours hang on each other.
func scattered(many int) string {
	b := make([]byte, many)
	n := uint64(many)
	for i := range b {
		n = n*6364136223846793005 + 1442695040888963407
		b[i] = byte(n >> 56)
	}
	return string(b)
}

// told is the chapter's words for a Sum, by multiplying, so that it shares nothing with what is tested.
func told(s string) uint32 {
	a, b := uint64(0), uint64(0)
	for i, x := range []byte(s) {
		a = (a + uint64(x)) % wrap
		b = (b + uint64(len(s)-i)*uint64(x)) % wrap
	}
	return uint32(wrap*b + a)
}

// modulo is n modulo 65536, from 0 on also where n is below 0.
func modulo(n int) int {
	return (n%wrap + wrap) % wrap
}

// toldNext is the chapter's words for a Next.
func toldNext(sum uint32, many int, out, in byte) uint32 {
	a := modulo(int(sum%wrap) - int(out) + int(in))
	b := modulo(int(sum/wrap) - modulo(many)*int(out) + a)
	return uint32(wrap*b + a)
}

func texts() []string {
	l := []string{
		"a", "b", "ab", "ba", "abc", "aaaaaaaa", "the same words again",
		"\x00", "\x00\x00\x00", "\x00\x01", "\x01\x00", "\x7f\x80\x81\xff", "\u00e9\u20ac\U0001f600", "\xc3\x28\xff\xfe\x80",
		strings.Repeat("\xff", 22), strings.Repeat("\xff", 23), strings.Repeat("\x80", 400), strings.Repeat("\xff", 600),
		strings.Repeat("\x00", 300), "\xff" + strings.Repeat("\x00", 300), strings.Repeat("\x00", 300) + "\xff",
	}
	for _, many := range []int{2, 3, 7, 8, 9, 24, 200, 255, 256, 257, 258, 700} {
		l = append(l, scattered(many))
	}
	return l
}

func checkSum(t *testing.T, s string, want uint32) {
	t.Helper()
	if n := roll.Sum(s); n != want {
		t.Errorf("Sum of %d bytes, %.40q = %d and %d; want %d and %d", len(s), s, n/wrap, n%wrap, want/wrap, want%wrap)
	}
}

func checkNext(t *testing.T, sum uint32, many int, out, in byte, want uint32) {
	t.Helper()
	if n := roll.Next(sum, many, out, in); n != want {
		t.Errorf("Next(%d and %d, %d, %d, %d) = %d and %d; want %d and %d", sum/wrap, sum%wrap, many, out, in, n/wrap, n%wrap, want/wrap, want%wrap)
	}
}

// checkAll holds that there are as many checks as places, and that each is the Sum of the bytes from its place on.
func checkAll(t *testing.T, s string, many int) {
	t.Helper()
	l := roll.All(s, many)
	if len(l) != len(s)-many+1 {
		t.Errorf("All of %d bytes, by %d: %d checks; want %d", len(s), many, len(l), len(s)-many+1)
		return
	}
	for at, n := range l {
		if part := s[at : at+many]; n != told(part) || n != roll.Sum(part) {
			t.Errorf("All of %d bytes, by %d: from %d on %d; want %d", len(s), many, at, n, told(part))
			return
		}
	}
}

func checkNone(t *testing.T, s string, many int) {
	t.Helper()
	if l := roll.All(s, many); len(l) != 0 {
		t.Errorf("All(%.40q, %d) = %d checks; want none", s, many, len(l))
	}
}

func TestP9_1SumExamples(t *testing.T) {
	for _, x := range []struct {
		s    string
		a, b uint32
	}{
		{"", 0, 0},
		{"a", 97, 97},
		{"ab", 195, 292},
		{"ba", 195, 293},
		{"bc", 197, 295},
		{"abc", 294, 586},
		{"\x00", 0, 0},
		{"\x00\x00\x00", 0, 0},
		{"\x01\x00\x00", 1, 3},
		{"\x00\x01\x00", 1, 2},
		{"\x00\x00\x01", 1, 1},
		{"\x80", 128, 128},
		{"\xff\xfe", 509, 764},
		{"\u00e9", 195 + 169, 2*195 + 169},
	} {
		checkSum(t, x.s, wrap*x.b+x.a)
	}
	checkSum(t, "ab", 19136707)
}

func TestP9_1SumOfEachByte(t *testing.T) {
	for one := range 256 {
		checkSum(t, string([]byte{byte(one)}), uint32(one)*(wrap+1))
		checkSum(t, string([]byte{byte(one), 0}), uint32(one)*(2*wrap+1))
		checkSum(t, string([]byte{1, byte(one)}), (wrap+1)*uint32(one)+2*wrap+1)
	}
}

// The sums are just below 65536, just as great, and greater.
func TestP9_1SumModulo(t *testing.T) {
	full := strings.Repeat("\xff", 257)
	high := uint32(255 * 257 * 258 / 2 % wrap)
	checkSum(t, full, wrap*high+65535)
	checkSum(t, full+"\x00", wrap*((high+65535)%wrap)+65535)
	checkSum(t, full+"\x01", wrap*high)
	checkSum(t, full+"\x02", wrap*((high+1)%wrap)+1)
	checkSum(t, full+"\xff", wrap*((high+254)%wrap)+254)
	// 255 times what 1 to 22 are together is 64515, times what 1 to 23 are 70380.
	checkSum(t, strings.Repeat("\xff", 22), wrap*64515+5610)
	checkSum(t, strings.Repeat("\xff", 23), wrap*(70380-65536)+5865)
	checkSum(t, "\xff"+strings.Repeat("\x00", 255)+"\xff", wrap*(255*258%wrap)+510)
	checkSum(t, "\x80"+strings.Repeat("\x00", 510), wrap*65408+128)
	checkSum(t, "\x80"+strings.Repeat("\x00", 511), 128)
	checkSum(t, "\x80"+strings.Repeat("\x00", 512), wrap*128+128)
}

// 255 times how many bytes there are, and 255 times what the numbers up to that are together, are beyond what 32 bits hold.
func TestP9_1SumOfManyBytes(t *testing.T) {
	for _, many := range []uint64{65535, 65536, 65537, 1 << 20, 17000000} {
		a, b := 255*many%wrap, 255*(many*(many+1)/2)%wrap
		checkSum(t, strings.Repeat("\xff", int(many)), uint32(wrap*b+a))
	}
}

func TestP9_1Sum(t *testing.T) {
	checkSum(t, "", told(""))
	for _, s := range texts() {
		checkSum(t, s, told(s))
	}
	for many := range 600 {
		s := scattered(many)
		checkSum(t, s, told(s))
	}
}

// Two bytes that stand in each other's place change the greater half, by how far they are apart, and nothing else.
func TestP9_1SumHangsOnTheOrder(t *testing.T) {
	s := []byte("abcdefgh\x00\x80\xff")
	was := roll.Sum(string(s))
	for i := range s {
		for j := range i {
			s[i], s[j] = s[j], s[i]
			n := roll.Sum(string(s))
			if n%wrap != was%wrap || n/wrap == was/wrap {
				t.Errorf("Sum of %q = %d and %d; that of another order %d and %d", s, n/wrap, n%wrap, was/wrap, was%wrap)
			}
			s[i], s[j] = s[j], s[i]
		}
	}
}

func TestP9_2NextExamples(t *testing.T) {
	for _, x := range []struct {
		sum     uint32
		many    int
		out, in byte
		a, b    uint32
	}{
		{0, 0, 0, 0, 0, 0},
		{0, 5, 0, 0, 0, 0},
		{0, 5, 0, 1, 1, 1},
		{0, 5, 0, 255, 255, 255},
		{19136707, 2, 'a', 'c', 197, 295},
		{19136707, 1, 'a', 'c', 197, 392},
		{19136707, 0, 'a', 'c', 197, 489},
		// A less out is below 0: without in, and with it.
		{0, 1, 255, 0, 65281, 65026},
		{0, 0, 1, 0, 65535, 65535},
		{0, 1, 1, 0, 65535, 65534},
		{wrap*7 + 3, 1, 4, 0, 65535, 2},
		{wrap*7 + 3, 1, 4, 1, 0, 3},
		{wrap*7 + 3, 1, 4, 2, 1, 4},
		// A comes around at the other end.
		{65535, 1, 0, 0, 65535, 65535},
		{65535, 1, 0, 1, 0, 0},
		{65535, 1, 0, 255, 254, 254},
		{wrap * 65535, 1, 0, 1, 1, 0},
		// Many times out is as great as B, and greater, once and many times over.
		{wrap*24 + 3, 8, 3, 0, 0, 0},
		{wrap*24 + 3, 9, 3, 0, 0, 65533},
		{wrap*24 + 3, 300, 255, 255, 3, (24 - 300*255 + 3) + 2*wrap},
		{wrap*24 + 255, 65535, 255, 0, 0, 24 + 255},
		// Many wraps around: 65536 are as 0, and below 0 B' grows.
		{wrap*24 + 255, 65536, 255, 0, 0, 24},
		{wrap*24 + 255, 65537, 255, 0, 0, 24 + wrap - 255},
		{wrap*24 + 255, -1, 255, 0, 0, 24 + 255},
		{wrap*24 + 255, -65536, 255, 0, 0, 24},
		{wrap*24 + 255, math.MinInt, 255, 0, 0, 24},
		{wrap*24 + 255, math.MinInt + 1, 255, 0, 0, 24 + wrap - 255},
		{wrap*24 + 255, math.MaxInt, 255, 0, 0, 24 + 255},
		{wrap*24 + 255, math.MaxInt - 1, 255, 0, 0, 24 + 510},
		{math.MaxUint32, 1, 255, 0, 65280, 65024},
		{math.MaxUint32, 1, 0, 255, 254, 253},
	} {
		checkNext(t, x.sum, x.many, x.out, x.in, wrap*x.b+x.a)
		checkNext(t, x.sum, x.many, x.out, x.in, toldNext(x.sum, x.many, x.out, x.in))
	}
}

func edgesOfMany() []int {
	l := []int{math.MinInt, math.MinInt + 1, math.MinInt32, math.MinInt32 - 1, math.MaxInt32, math.MaxInt32 + 1, math.MaxInt - 1, math.MaxInt}
	for _, n := range []int{0, 1, 2, 8, 127, 128, 255, 256, 257, 65535, 65536, 65537, 131072, 1 << 24, 1<<31 + 1, 1 << 32, 1<<32 + 5, 1 << 48, 1<<62 + 7} {
		l = append(l, n, -n)
	}
	return l
}

// Among the sums are those that are no text's: of 1 and less than it, and of 0 and more.
func edgesOfSums() []uint32 {
	var l []uint32
	for _, b := range []uint32{0, 1, 2, 254, 255, 256, 32767, 32768, 65280, 65281, 65534, 65535} {
		for _, a := range []uint32{0, 1, 2, 254, 255, 256, 32767, 32768, 65280, 65281, 65534, 65535} {
			l = append(l, wrap*b+a)
		}
	}
	return l
}

func TestP9_2NextAtTheEdges(t *testing.T) {
	bytes := []byte{0, 1, 2, 127, 128, 254, 255}
	for _, sum := range edgesOfSums() {
		for _, many := range edgesOfMany() {
			for _, out := range bytes {
				for _, in := range bytes {
					checkNext(t, sum, many, out, in, toldNext(sum, many, out, in))
				}
			}
		}
	}
}

func TestP9_2NextOfEachHalf(t *testing.T) {
	for half := range uint32(wrap) {
		for _, sum := range []uint32{half, wrap * half, (wrap + 1) * half, wrap*half + 65535, wrap*65535 + half, wrap*half + (65535 - half)} {
			checkNext(t, sum, 8, 255, 0, toldNext(sum, 8, 255, 0))
			checkNext(t, sum, 300, 255, 255, toldNext(sum, 300, 255, 255))
			checkNext(t, sum, 1, 0, 255, toldNext(sum, 1, 0, 255))
			checkNext(t, sum, -7, 1, 2, toldNext(sum, -7, 1, 2))
			checkNext(t, sum, 8, 0, 0, toldNext(sum, 8, 0, 0))
		}
	}
}

func TestP9_2NextOfEachByte(t *testing.T) {
	for out := range 256 {
		for in := range 256 {
			for _, sum := range []uint32{0, 19136707, math.MaxUint32} {
				checkNext(t, sum, 8, byte(out), byte(in), toldNext(sum, 8, byte(out), byte(in)))
				checkNext(t, sum, 65535, byte(out), byte(in), toldNext(sum, 65535, byte(out), byte(in)))
			}
		}
	}
}

func TestP9_2NextOfAnything(t *testing.T) {
	dice := rand.New(rand.NewPCG(9, 27))
	for range 200000 {
		sum, many, out, in := dice.Uint32(), int(dice.Uint64()>>dice.IntN(64)), byte(dice.IntN(256)), byte(dice.IntN(256))
		checkNext(t, sum, many, out, in, toldNext(sum, many, out, in))
	}
}

func TestP9_3AllExamples(t *testing.T) {
	for _, x := range []struct {
		s    string
		many int
		want []uint32
	}{
		{"abc", 1, []uint32{97 * 65537, 98 * 65537, 99 * 65537}},
		{"abc", 2, []uint32{19136707, 19333317}},
		{"abc", 3, []uint32{wrap*586 + 294}},
		{"ab", 2, []uint32{19136707}},
		{"abab", 2, []uint32{19136707, wrap*293 + 195, 19136707}},
		{"\x00\x00\x00", 2, []uint32{0, 0}},
		{"\xff\x00", 1, []uint32{255 * 65537, 0}},
	} {
		if l := roll.All(x.s, x.many); !slices.Equal(l, x.want) {
			t.Errorf("All(%q, %d) = %v; want %v", x.s, x.many, l, x.want)
		}
	}
}

func TestP9_3AllOfTooFewOrTooMany(t *testing.T) {
	for _, s := range append(texts(), "") {
		for _, many := range []int{0, -1, -2, -len(s), -len(s) - 1, -65535, math.MinInt32, math.MinInt + 1, math.MinInt} {
			checkNone(t, s, many)
		}
		for _, many := range []int{len(s) + 1, len(s) + 2, 2*len(s) + 1, len(s) + 256, len(s) + 65536, math.MaxInt32, 1 << 32, 1<<32 + len(s), 1 << 62, math.MaxInt - len(s), math.MaxInt - 1, math.MaxInt} {
			checkNone(t, s, many)
		}
	}
}

func TestP9_3AllOfNoText(t *testing.T) {
	for _, many := range append(edgesOfMany(), 0, 1, -1) {
		checkNone(t, "", many)
	}
}

func TestP9_3AllOfJustAsMany(t *testing.T) {
	for _, s := range texts() {
		if l := roll.All(s, len(s)); !slices.Equal(l, []uint32{told(s)}) {
			t.Errorf("All(%.40q, %d) = %v; want %d alone", s, len(s), l, told(s))
		}
	}
}

func TestP9_3AllOfOne(t *testing.T) {
	for _, s := range texts() {
		l := roll.All(s, 1)
		if len(l) != len(s) {
			t.Errorf("All(%.40q, 1) has %d checks; want %d", s, len(l), len(s))
			continue
		}
		for at, n := range l {
			if n != uint32(s[at])*65537 {
				t.Errorf("All(%.40q, 1): from %d on %d; want %d", s, at, n, uint32(s[at])*65537)
			}
		}
	}
}

func TestP9_3AllOfEachMany(t *testing.T) {
	for _, s := range texts() {
		for many := 1; many <= len(s); many++ {
			if many < 30 || len(s)-many < 5 || many%37 == 0 {
				checkAll(t, s, many)
			}
		}
	}
	for length := range 24 {
		for many := 1; many <= length; many++ {
			checkAll(t, scattered(length), many)
		}
	}
}

// Parts of 65536 bytes and more are longer than their checks' sums count.
func TestP9_3AllOfLongParts(t *testing.T) {
	for _, s := range []string{scattered(65536 + 40), strings.Repeat("\xff", 65536+40)} {
		for many := 65534; many <= len(s); many++ {
			if many < 65539 || many > len(s)-2 {
				checkAll(t, s, many)
			}
		}
	}
}

func TestP9_4NextOfASumIsThatOfAPlaceFurther(t *testing.T) {
	for _, s := range []string{"the same words again", scattered(700), strings.Repeat("\xff", 600), strings.Repeat("\xff\x00\x80", 200), strings.Repeat("\x00", 300) + strings.Repeat("\xff", 300)} {
		for _, many := range []int{1, 2, 7, 8, 9, 16, 24, 255, 256, 257, 258, 599} {
			for at := 0; at+many < len(s); at++ {
				n := roll.Next(roll.Sum(s[at:at+many]), many, s[at], s[at+many])
				if want := roll.Sum(s[at+1 : at+1+many]); n != want || n != told(s[at+1:at+1+many]) {
					t.Fatalf("%.40q, %d bytes: Next of those from %d on is %d, and the Sum of those from %d on %d", s, many, at, n, at+1, want)
				}
			}
		}
	}
}

// All along a text Next is asked of what it answered ahead.
func TestP9_4NextOfNextAllAlong(t *testing.T) {
	for _, s := range []string{scattered(900), strings.Repeat("\xff", 900)} {
		for _, many := range []int{1, 8, 300, 899} {
			n := roll.Sum(s[:many])
			for end := many; end < len(s); end++ {
				n = roll.Next(n, many, s[end-many], s[end])
				if want := told(s[end+1-many : end+1]); n != want {
					t.Fatalf("%.40q, %d bytes: up to %d it is %d; want %d", s, many, end, n, want)
				}
			}
			if n != roll.Sum(s[len(s)-many:]) {
				t.Errorf("%.40q, %d bytes: at the end it is %d", s, many, n)
			}
		}
	}
}

func FuzzAnyText(f *testing.F) {
	for _, s := range append(texts(), "") {
		f.Add(s, 8)
		f.Add(s, 1)
		f.Add(s, len(s))
		f.Add(s, len(s)+1)
	}
	f.Fuzz(func(t *testing.T, s string, many int) {
		checkSum(t, s, told(s))
		if many < 1 || many > len(s) {
			checkNone(t, s, many)
			return
		}
		checkAll(t, s, many)
	})
}

func TestR3NothingIsShared(t *testing.T) {
	for _, many := range []int{1, 2, 8, 20} {
		s := "the same words again"
		first := roll.All(s, many)
		want := slices.Clone(first)
		second := roll.All(s, many)
		clear(append(first, 1, 2, 3))
		clear(first)
		clear(first[:cap(first)])
		if !slices.Equal(second, want) {
			t.Errorf("by %d: what was answered is %v now; want %v", many, second, want)
		}
		if again := roll.All(s, many); !slices.Equal(again, want) {
			t.Errorf("by %d: All answers %v now; want %v", many, again, want)
		}
		if s != "the same words again" {
			t.Errorf("the text is %q now", s)
		}
	}
}

// Nothing hangs on what was asked before.
func TestR5AskedAgain(t *testing.T) {
	l := texts()
	ask := func(s string) []uint32 {
		all := roll.All(s, (len(s)+1)/2)
		return append(all, roll.Sum(s), roll.Next(roll.Sum(s), len(s), s[0], s[len(s)-1]))
	}
	var first [][]uint32
	for _, s := range l {
		first = append(first, ask(s))
	}
	for i := len(l) - 1; i >= 0; i-- {
		if again := ask(l[i]); !slices.Equal(again, first[i]) {
			t.Errorf("%.40q: asked again it is %v", l[i], again)
		}
	}
}
