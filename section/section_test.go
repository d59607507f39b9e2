package section_test

import (
	"bytes"
	"hash/crc32"
	"math"
	"slices"
	"testing"

	"rolodex/api"
	"rolodex/section"
	"rolodex/wire"
)

const mostBytes = 100000

// summed is the chapter's words for a Sum, bit by bit, so that it shares nothing with what is tested.
func summed(b []byte) uint32 {
	word := uint32(4294967295)
	for _, x := range b {
		word ^= uint32(x)
		for range 8 {
			odd := word%2 == 1
			word /= 2
			if odd {
				word ^= 3988292384
			}
		}
	}
	return ^word
}

// scattered is many bytes of which no two neighbours hang on each other.
func scattered(many int) []byte {
	b := make([]byte, many)
	n := uint64(many)
	for i := range b {
		n = n*6364136223846793005 + 1442695040888963407
		b[i] = byte(n >> 56)
	}
	return b
}

func lengths() []int {
	return []int{0, 1, 2, 3, 4, 5, 126, 127, 128, 129, 300, 16383, 16384, mostBytes - 1, mostBytes}
}

func behinds() [][]byte {
	return [][]byte{nil, {0}, {9}, {10}, {255, 255, 255, 255, 255}, []byte("some more bytes"), scattered(300)}
}

// packed is a section told by hand, of whatever its number says and whatever it has.
func packed(kind byte, n uint64, b []byte) []byte {
	all := slices.Concat([]byte{kind}, wire.Put(n), b)
	return append(all, wire.Word(summed(all))...)
}

func mustPack(t *testing.T, kind int, b []byte) []byte {
	t.Helper()
	p, ok := section.Pack(kind, b)
	if !ok {
		t.Fatalf("Pack(%d, %d bytes): false", kind, len(b))
	}
	return p
}

func checkNone(t *testing.T, b []byte, want api.Errno) {
	t.Helper()
	kind, got, used, err := section.Open(b)
	if kind != 0 || len(got) != 0 || used != 0 || err != want {
		t.Errorf("Open(% x) = %d, % x, %d, %d; want noughts and %d", b[:min(len(b), 40)], kind, got[:min(len(got), 40)], used, err, want)
	}
}

func checkOpen(t *testing.T, in []byte, kind int, b []byte, used int) {
	t.Helper()
	gotKind, got, gotUsed, err := section.Open(in)
	if gotKind != kind || !bytes.Equal(got, b) || gotUsed != used || err != api.OK {
		t.Errorf("Open of kind %d, %d bytes = %d, %d bytes, %d, %d; want %d in all and OK", kind, len(b), gotKind, len(got), gotUsed, err, used)
	}
}

func TestP2_1SumExamples(t *testing.T) {
	for _, x := range []struct {
		b    string
		want uint32
	}{
		{"", 0},
		{"\x00", 0xd202ef8d},
		{"\x01", 0xa505df1b},
		{"\xff", 0xff000000},
		{"a", 0xe8b7be43},
		{"\xff\xff\xff\xff", 0xffffffff},
		{"\x00\x00\x00\x00", 0x2144df1c},
		{"123456789", 3421780262},
	} {
		if n := section.Sum([]byte(x.b)); n != x.want {
			t.Errorf("Sum(%q) = %d, want %d", x.b, n, x.want)
		}
	}
	if n := section.Sum(nil); n != 0 {
		t.Errorf("Sum(nil) = %d, want 0", n)
	}
}

func TestP2_1SumOfEachByte(t *testing.T) {
	for one := range 256 {
		b := []byte{byte(one)}
		if n := section.Sum(b); n != summed(b) {
			t.Errorf("Sum(%v) = %d, want %d", b, n, summed(b))
		}
	}
}

func TestP2_1SumOfManyBytes(t *testing.T) {
	for _, many := range append(lengths(), mostBytes+1, 1<<20) {
		for _, b := range [][]byte{scattered(many), make([]byte, many), bytes.Repeat([]byte{255}, many)} {
			want := summed(b)
			if n := section.Sum(b); n != want || n != crc32.ChecksumIEEE(b) {
				t.Errorf("Sum of %d bytes = %d, want %d", many, n, want)
			}
		}
	}
}

func TestP2_2PackExamples(t *testing.T) {
	for _, x := range []struct {
		kind int
		b    string
		head string
	}{
		{0, "", "\x00\x00"},
		{9, "", "\x09\x00"},
		{3, "ab", "\x03\x02ab"},
		{1, "\x00", "\x01\x01\x00"},
		{7, string(scattered(300)), "\x07\x82\x2c" + string(scattered(300))},
	} {
		want := append([]byte(x.head), wire.Word(summed([]byte(x.head)))...)
		if p := mustPack(t, x.kind, []byte(x.b)); !bytes.Equal(p, want) {
			t.Errorf("Pack(%d, %q) = % x, want % x", x.kind, x.b, p, want)
		}
	}
	if p := mustPack(t, 0, nil); !bytes.Equal(p, packed(0, 0, nil)) {
		t.Errorf("Pack(0, nil) = % x", p)
	}
}

func TestP2_2PackOfEachKindAndLength(t *testing.T) {
	for kind := range 10 {
		for _, many := range lengths() {
			b := scattered(many)
			if p := mustPack(t, kind, b); !bytes.Equal(p, packed(byte(kind), uint64(many), b)) {
				t.Errorf("Pack(%d, %d bytes) has other bytes", kind, many)
			}
		}
	}
}

func TestP2_2PackNone(t *testing.T) {
	for _, kind := range []int{math.MinInt, -256, -255, -1, 10, 11, 255, 256, 257, 265, math.MaxInt} {
		for _, many := range []int{0, 2, mostBytes, mostBytes + 1} {
			if p, ok := section.Pack(kind, make([]byte, many)); len(p) != 0 || ok {
				t.Errorf("Pack(%d, %d bytes) = %d bytes, %t; want nothing and false", kind, many, len(p), ok)
			}
		}
	}
	for kind := range 10 {
		for _, many := range []int{mostBytes + 1, mostBytes + 2, 2 * mostBytes} {
			if p, ok := section.Pack(kind, make([]byte, many)); len(p) != 0 || ok {
				t.Errorf("Pack(%d, %d bytes) = %d bytes, %t; want nothing and false", kind, many, len(p), ok)
			}
		}
	}
}

func TestP2_2OpenExamples(t *testing.T) {
	for _, behind := range behinds() {
		checkOpen(t, slices.Concat(packed(3, 2, []byte("ab")), behind), 3, []byte("ab"), 8)
		checkOpen(t, slices.Concat(packed(0, 0, nil), behind), 0, nil, 6)
		checkOpen(t, slices.Concat(packed(9, mostBytes, scattered(mostBytes)), behind), 9, scattered(mostBytes), mostBytes+8)
	}
}

func TestP2_2OpenOfNoBytes(t *testing.T) {
	checkNone(t, nil, api.ErrForm)
	checkNone(t, []byte{}, api.ErrForm)
}

// A kind that is none is told ahead of its check, be that right or wrong.
func TestP2_2OpenOfAnotherFirstByte(t *testing.T) {
	for kind := 10; kind < 256; kind++ {
		p := packed(byte(kind), 2, []byte("ab"))
		checkNone(t, p, api.ErrForm)
		p[len(p)-1]++
		checkNone(t, p, api.ErrForm)
		checkNone(t, []byte{byte(kind)}, api.ErrForm)
	}
}

func TestP2_2OpenOfANumberThatIsNone(t *testing.T) {
	for _, number := range [][]byte{
		nil,
		{128},
		{128, 0},
		{128, 2},
		{129},
		{255, 255},
		bytes.Repeat([]byte{128}, 40),
		bytes.Repeat([]byte{255}, 40),
		{130, 128, 128, 128, 128, 128, 128, 128, 128, 0},
	} {
		checkNone(t, append([]byte{3}, number...), api.ErrForm)
	}
	// Two bytes, told with a group too many, and with a check that is right.
	long := []byte{3, 128, 2, 'a', 'b'}
	checkNone(t, append(long, wire.Word(summed(long))...), api.ErrForm)
}

// The bytes are all there, and the check is right: the number alone is too great.
func TestP2_2OpenOfANumberBeyond(t *testing.T) {
	for _, many := range []int{mostBytes + 1, mostBytes + 2, 2 * mostBytes, 1 << 20} {
		checkNone(t, packed(3, uint64(many), make([]byte, many)), api.ErrForm)
	}
	for _, n := range []uint64{mostBytes + 1, 1 << 31, 1 << 32, 1<<32 + 2, math.MaxInt64 - 5, math.MaxInt64, 1 << 63, 1<<63 + 2, math.MaxUint64 - 5, math.MaxUint64 - 3, math.MaxUint64} {
		checkNone(t, packed(3, n, []byte("ab")), api.ErrForm)
		checkNone(t, packed(3, n, nil), api.ErrForm)
	}
}

// Every beginning is short of the bytes that the number says, or of the four behind them.
func TestP2_2OpenOfABeginning(t *testing.T) {
	for _, many := range []int{0, 1, 2, 127, 128, 300} {
		p := packed(3, uint64(many), scattered(many))
		for short := range len(p) {
			checkNone(t, p[:short:short], api.ErrForm)
			// What a slice has room for, behind its length, is not its own.
			checkNone(t, p[:short], api.ErrForm)
		}
	}
	p := packed(9, mostBytes, scattered(mostBytes))
	for missing := 1; missing < 10; missing++ {
		checkNone(t, p[:len(p)-missing], api.ErrForm)
	}
	checkNone(t, packed(3, 7, []byte("ab")), api.ErrForm)
}

func TestP2_2OpenOfAnotherCheck(t *testing.T) {
	checkNone(t, []byte{0, 0, 0, 0, 0, 0}, api.ErrCheck)
	for _, many := range []int{0, 1, 2, 300, mostBytes} {
		b := scattered(many)
		p := packed(3, uint64(many), b)
		check := p[len(p)-4:]
		right := bytes.Clone(check)
		for _, wrong := range [][]byte{
			{right[3], right[2], right[1], right[0]},
			{^right[0], ^right[1], ^right[2], ^right[3]},
			{0, 0, 0, 0},
			{255, 255, 255, 255},
			wire.Word(summed(b)), // of the bytes alone, without the kind and the number
		} {
			copy(check, wrong)
			checkNone(t, p, api.ErrCheck)
			checkNone(t, append(bytes.Clone(p), "behind"...), api.ErrCheck)
		}
	}
}

func TestP2_3WhatIsPackedIsOpened(t *testing.T) {
	for kind := range 10 {
		for _, many := range lengths() {
			b := scattered(many)
			p := mustPack(t, kind, b)
			for _, behind := range behinds() {
				checkOpen(t, slices.Concat(p, behind), kind, b, len(p))
			}
			checkOpen(t, slices.Concat(p, p), kind, b, len(p))
		}
	}
}

// checkChanged holds that no byte of p, changed to any other one, leaves the section as it was.
func checkChanged(t *testing.T, kind int, b, behind []byte, places []int) {
	t.Helper()
	p := mustPack(t, kind, b)
	in := slices.Concat(p, behind)
	ownBytes := len(p) - 4 - len(b)
	for _, i := range places {
		was := in[i]
		for change := 1; change < 256; change++ {
			in[i] = was ^ byte(change)
			gotKind, got, used, err := section.Open(in)
			if err == api.OK && gotKind == kind && used == len(p) && bytes.Equal(got, b) {
				t.Fatalf("byte %d of kind %d, %d bytes: changed from %d to %d it is opened as that section", i, kind, len(b), was, in[i])
			}
			if err != api.OK && (gotKind != 0 || len(got) != 0 || used != 0) {
				t.Fatalf("byte %d changed: error %d, and %d, %d bytes, %d", i, err, gotKind, len(got), used)
			}
			if i >= ownBytes && err != api.ErrCheck {
				t.Fatalf("byte %d of kind %d, %d bytes, changed from %d to %d: error %d, want ErrCheck", i, kind, len(b), was, in[i], err)
			}
		}
		in[i] = was
	}
}

func TestP2_3WithOneByteChanged(t *testing.T) {
	for _, kind := range []int{0, 3, 9} {
		for _, many := range []int{0, 1, 2, 7, 128} {
			for _, behind := range [][]byte{nil, scattered(300)} {
				b := scattered(many)
				every := make([]int, len(mustPack(t, kind, b)))
				for i := range every {
					every[i] = i
				}
				checkChanged(t, kind, b, behind, every)
			}
		}
	}
}

func TestP2_3WithOneByteOfManyChanged(t *testing.T) {
	checkChanged(t, 9, scattered(mostBytes), []byte("behind"), []int{0, 1, 2, 3, 4, mostBytes + 3, mostBytes + 4, mostBytes + 7})
}

// Whatever is opened is what would be packed.
func checkAgain(t *testing.T, b []byte) {
	t.Helper()
	kind, got, used, err := section.Open(b)
	switch err {
	case api.OK:
		if p, ok := section.Pack(kind, got); !ok || used != len(p) || used > len(b) || !bytes.Equal(p, b[:used]) {
			t.Fatalf("Open(% x) = %d, % x, %d: Pack has other bytes", b, kind, got, used)
		}
	case api.ErrForm, api.ErrCheck:
		if kind != 0 || len(got) != 0 || used != 0 {
			t.Fatalf("Open(% x): error %d, and %d, % x, %d", b, err, kind, got, used)
		}
	default:
		t.Fatalf("Open(% x): error %d", b, err)
	}
}

func TestR1AnyBytes(t *testing.T) {
	edges := []byte{0, 1, 4, 9, 10, 127, 128, 129, 134, 255}
	for many := range 9 {
		b := make([]byte, many)
		for i := range b {
			for j := range b {
				for _, x := range edges {
					for _, y := range edges {
						clear(b)
						b[i], b[j] = x, y
						checkAgain(t, b)
						if many >= 4 {
							copy(b[many-4:], wire.Word(summed(b[:many-4])))
							checkAgain(t, b)
						}
					}
				}
			}
		}
	}
}

func FuzzAnyBytes(f *testing.F) {
	f.Add([]byte(nil))
	f.Add(packed(3, 2, []byte("ab")))
	f.Add(packed(9, 0, nil))
	f.Add(packed(10, 0, nil))
	f.Add([]byte{0, 0, 0, 0, 0, 0})
	f.Fuzz(func(t *testing.T, b []byte) {
		checkAgain(t, b)
		checkAgain(t, append(bytes.Clone(b), wire.Word(summed(b))...))
	})
}

func TestR3NothingIsShared(t *testing.T) {
	in := []byte("ab")
	p := mustPack(t, 3, in)
	want := bytes.Clone(p)
	section.Sum(in)
	if string(in) != "ab" {
		t.Errorf("what was packed is %q now", in)
	}
	clear(in)
	if !bytes.Equal(p, want) {
		t.Errorf("the section is % x now", p)
	}
	_, b, _, _ := section.Open(p)
	if !bytes.Equal(p, want) {
		t.Errorf("what was opened is % x now", p)
	}
	clear(p)
	if string(b) != "ab" {
		t.Errorf("the bytes of the section are %q now", b)
	}
	_, b, _, _ = section.Open(want)
	before := bytes.Clone(want)
	clear(append(b, "more"...))
	clear(b)
	if !bytes.Equal(want, before) {
		t.Errorf("what was opened is % x now", want)
	}
}

// What a caller has room for behind the bytes is the caller's own, too.
func TestR3PackLeavesTheRoomBehind(t *testing.T) {
	in := []byte("abcdefghijkl")
	mustPack(t, 3, in[:2])
	if string(in) != "abcdefghijkl" {
		t.Errorf("what stands behind the bytes is %q now", in)
	}
}
