package delta_test

import (
	"bytes"
	"math"
	"math/rand/v2"
	"slices"
	"strings"
	"testing"

	"rolodex/api"
	"rolodex/delta"
)

func checkPut(t *testing.T, l []api.Piece, want string) {
	t.Helper()
	if b, is := delta.Put(l); string(b) != want || !is {
		t.Errorf("Put(%s) = % x, %t; want % x", shown(l), b, is, want)
	}
}

func checkGet(t *testing.T, b []byte, want []api.Piece, many int) {
	t.Helper()
	if l, used, is := delta.Get(b); !slices.Equal(l, want) || used != many || !is {
		t.Errorf("Get(% x) = %s, %d, %t; want %s, %d", b, shown(l), used, is, shown(want), many)
	}
}

func checkGetNone(t *testing.T, b []byte) {
	t.Helper()
	if l, used, is := delta.Get(b); len(l) != 0 || used != 0 || is {
		t.Errorf("Get(% .100x) = %s, %d, %t; want nothing, 0 and false", b, shown(l), used, is)
	}
}

func TestP11_3PutExamples(t *testing.T) {
	long := bytesOf(200)
	for _, x := range []struct {
		l    []api.Piece
		want string
	}{
		{nil, "\x00"},
		{[]api.Piece{}, "\x00"},
		{list(text("a")), "\x01\x00\x01a"},
		{list(copied(0, 1)), "\x01\x01\x00\x01"},
		{list(text("ab"), copied(8, 16)), "\x02\x00\x02ab\x01\x08\x10"},
		{list(copied(127, 127)), "\x01\x01\x7f\x7f"},
		{list(copied(128, 128)), "\x01\x01\x81\x00\x81\x00"},
		{list(copied(200, 200)), "\x01\x01\x81\x48\x81\x48"},
		{list(text(long)), "\x01\x00\x81\x48" + long},
		{list(text(long[:127])), "\x01\x00\x7f" + long[:127]},
		{list(text("\x00\x01\xff")), "\x01\x00\x03\x00\x01\xff"},
		{list(copied(1, 2), copied(3, 4), text("z"), copied(5, 6)), "\x04\x01\x01\x02\x01\x03\x04\x00\x01z\x01\x05\x06"},
		{slices.Repeat(list(text("a")), 60), "\x3c" + strings.Repeat("\x00\x01a", 60)},
	} {
		checkPut(t, x.l, x.want)
		checkGet(t, []byte(x.want), x.l, len(x.want))
	}
}

func TestP11_3PutOfAll(t *testing.T) {
	for _, l := range mayBe() {
		checkPut(t, l, string(toldPut(l)))
	}
	for from := range 201 {
		for _, many := range []int{1, 127, 128, 200} {
			checkPut(t, list(copied(from, many)), string(toldPut(list(copied(from, many)))))
		}
		if from > 0 {
			checkPut(t, list(copied(8, from)), string(toldPut(list(copied(8, from)))))
			checkPut(t, list(text(scattered(from))), string(toldPut(list(text(scattered(from))))))
		}
	}
}

func TestP11_3PutOfPiecesThatMayNotBe(t *testing.T) {
	for _, l := range mayNotBe() {
		if b, is := delta.Put(l); len(b) != 0 || is {
			t.Errorf("Put(%s) = % x, %t; want nothing and false", shown(l), b, is)
		}
	}
}

func TestP11_3GetOfWhatIsPut(t *testing.T) {
	for _, l := range mayBe() {
		b := toldPut(l)
		for _, behind := range []string{"", "\x00", "\x01", "\x80", "\xff", "z", "\x00\x01a", "some more bytes", scattered(1000)} {
			checkGet(t, []byte(string(b)+behind), l, len(b))
		}
	}
}

func TestP11_3GetOfABeginning(t *testing.T) {
	for _, l := range mayBe() {
		b := toldPut(l)
		for many := range len(b) {
			checkGetNone(t, b[:many:many])
			// The bytes that a slice has room for, behind its length, are not its own.
			checkGetNone(t, b[:many])
		}
	}
	checkGetNone(t, nil)
	checkGetNone(t, []byte{})
}

func TestP11_3GetOfAnotherFirstByte(t *testing.T) {
	for first := 2; first < 256; first++ {
		one := string([]byte{byte(first)})
		for _, b := range []string{"\x01" + one + "\x01a", "\x01" + one + "\x01\x01", "\x01" + one + "\x00\x01", "\x02\x00\x01a" + one + "\x01b", "\x02\x01\x08\x08" + one + "\x08\x08", "\x01" + one + "\x01\x01\x01", "\x01" + one + "\x00\x00\x01a"} {
			checkGetNone(t, []byte(b))
			checkGetNone(t, []byte(b+"behind"))
		}
	}
	// A text is not got as a copy, nor a copy as a text.
	checkGet(t, []byte("\x01\x00\x01\x01"), list(text("\x01")), 4)
	checkGet(t, []byte("\x01\x01\x01\x01"), list(copied(1, 1)), 4)
}

// otherBytes are bytes that tell a number, and are not its Put.
func otherBytes(n uint64) []string {
	b := string(toldNumber(n))
	return []string{"\x80" + b, "\x80\x80" + b, strings.Repeat("\x80", 9) + b, strings.Repeat("\x80", 12) + b}
}

func TestP11_3GetOfOtherBytesOfANumber(t *testing.T) {
	for _, n := range []uint64{1, 8, 100, 128, 150, 200} {
		for _, other := range otherBytes(n) {
			checkGetNone(t, []byte("\x01\x01"+other+"\x01"))
			checkGetNone(t, []byte("\x01\x01\x01"+other))
			checkGetNone(t, []byte("\x01\x00"+other+bytesOf(200)))
			checkGetNone(t, []byte("\x02\x00\x01a\x01"+other+"\x01"))
		}
	}
	for _, other := range otherBytes(0) {
		checkGetNone(t, []byte(other))
		checkGetNone(t, []byte("\x01\x01"+other+"\x01"))
		checkGetNone(t, []byte("\x01"+other+"\x01a"))
	}
	for _, other := range otherBytes(1) {
		checkGetNone(t, []byte(other+"\x00\x01a"))
		checkGetNone(t, []byte("\x01"+other+"\x01\x01"))
	}
}

func TestP11_3GetOfPiecesThatMayNotBe(t *testing.T) {
	for _, l := range mayNotBe() {
		if slices.ContainsFunc(l, notTold) {
			continue
		}
		checkGetNone(t, toldPut(l))
		checkGetNone(t, append(toldPut(l), "behind"...))
	}
	for _, b := range []string{
		"\x01\x00\x00", "\x01\x01\x00\x00", "\x01\x01\x05\x00", "\x01\x01\x81\x49\x01", "\x01\x01\x01\x81\x49", "\x01\x00\x81\x49" + bytesOf(201),
		"\x3d" + strings.Repeat("\x00\x01a", 61), "\x3d" + strings.Repeat("\x01\x00\x01", 61), "\x02\x01\x00\x64\x01\x00\x65", "\x02\x01\x00\x81\x48\x00\x01a", "\x02\x00\x64" + bytesOf(100) + "\x00\x65" + bytesOf(101),
	} {
		checkGetNone(t, []byte(b))
		checkGetNone(t, []byte(b+strings.Repeat("\x00\x01a", 70)))
	}
	checkGet(t, []byte("\x02\x01\x00\x64\x01\x00\x64"), list(copied(0, 100), copied(0, 100)), 7)
	checkGet(t, []byte("\x3c"+strings.Repeat("\x01\x00\x01", 61)), slices.Repeat(list(copied(0, 1)), 60), 181)
}

// notTold tells whether a piece has a member that its bytes don't tell.
func notTold(p api.Piece) bool {
	return p.Copy && p.Lit != "" || !p.Copy && (p.From != 0 || p.Len != 0)
}

func TestP11_3GetOfGreatNumbers(t *testing.T) {
	for _, n := range []uint64{61, 127, 128, 201, 256, 1<<32 + 1, 1<<32 + 8, 1 << 40, math.MaxInt32, math.MaxUint32, math.MaxInt64, 1 << 63, 1<<63 + 1, math.MaxUint64 - 200, math.MaxUint64 - 1, math.MaxUint64} {
		great := string(toldNumber(n))
		for _, rest := range []string{"", "\x00\x01a", strings.Repeat("\x00\x01a", 500), strings.Repeat("\x01\x00\x01", 500)} {
			checkGetNone(t, []byte(great+rest))
			checkGetNone(t, []byte("\x02"+great+rest))
			if n <= 200 {
				continue
			}
			checkGetNone(t, []byte("\x01\x01"+great+"\x01"+rest))
			checkGetNone(t, []byte("\x01\x01\x01"+great+rest))
			checkGetNone(t, []byte("\x01\x00"+great+rest))
			checkGetNone(t, []byte("\x02\x00\x01a\x01"+great+great+rest))
		}
	}
}

// toldGet is the chapter's words for a Get: all that b tells, and whether that may be.
func toldGet(b []byte) ([]api.Piece, int, bool) {
	at := 0
	number := func() uint64 {
		// The shortest bytes of which none but the last one is 128 or more are the only ones that may be a number here: all numbers are small.
		end := at
		for end < len(b) && b[end] >= 128 {
			end++
		}
		n := uint64(math.MaxUint64)
		if end < len(b) && end-at < 3 {
			n = 0
			for _, x := range b[at : end+1] {
				n = 128*n + uint64(x%128)
			}
			if !bytes.Equal(toldNumber(n), b[at:end+1]) {
				n = math.MaxUint64
			}
		}
		at = min(end+1, len(b))
		return n
	}
	var l []api.Piece
	for left := number(); left > 0; left-- {
		if left > 60 || at == len(b) || b[at] > 1 {
			return nil, 0, false
		}
		at++
		if b[at-1] == 1 {
			from, many := number(), number()
			if from > 1000 || many > 1000 {
				return nil, 0, false
			}
			l = append(l, copied(int(from), int(many)))
			continue
		}
		many := number()
		if many > uint64(len(b)-at) {
			return nil, 0, false
		}
		l = append(l, text(string(b[at:at+int(many)])))
		at += int(many)
	}
	if !toldMay(l) {
		return nil, 0, false
	}
	return l, at, true
}

// checkGot holds a Get against the chapter's words, and what is got against what is put.
func checkGot(t *testing.T, b []byte) {
	t.Helper()
	want, many, is := toldGet(b)
	if !is {
		checkGetNone(t, b)
		return
	}
	checkGet(t, b, want, many)
	checkPut(t, want, string(b[:many]))
}

func TestP11_3GetOfAnyThreeBytes(t *testing.T) {
	edges := []byte{0, 1, 2, 3, 60, 61, 72, 73, 127, 128, 129, 130, 200, 201, 255}
	for _, a := range edges {
		for _, b := range edges {
			for _, c := range edges {
				for _, d := range edges {
					checkGot(t, []byte{a, b, c, d})
					checkGot(t, []byte{1, a, b, c, d})
					checkGot(t, []byte{2, 0, 1, 'a', a, b, c, d, 1})
				}
			}
		}
	}
}

func TestP11_3GetOfChangedBytes(t *testing.T) {
	dice := rand.New(rand.NewPCG(11, 5))
	edges := []byte{0, 1, 2, 60, 61, 72, 73, 127, 128, 129, 255}
	samples := mayBe()
	for range 40000 {
		b := toldPut(samples[dice.IntN(len(samples))])
		for range 1 + dice.IntN(3) {
			at := dice.IntN(min(len(b), 12))
			switch dice.IntN(4) {
			case 0:
				b[at] = edges[dice.IntN(len(edges))]
			case 1:
				b[at] += byte(dice.IntN(3)) - 1
			case 2:
				b = slices.Insert(b, at, edges[dice.IntN(len(edges))])
			default:
				b = append(slices.Delete(b, at, at+1), 0)
			}
		}
		checkGot(t, b)
	}
}

func TestP11_4WhatIsPutIsGot(t *testing.T) {
	dice := rand.New(rand.NewPCG(11, 6))
	for range 20000 {
		l := anyPieces(dice)
		b, is := delta.Put(l)
		if is != toldMay(l) {
			t.Errorf("Put(%s) = % x, %t", shown(l), b, is)
		}
		if is {
			checkGet(t, append(b, scattered(dice.IntN(9))...), l, len(b))
		}
	}
}

func FuzzAnyBytes(f *testing.F) {
	for _, l := range mayBe() {
		f.Add(toldPut(l))
	}
	f.Add([]byte("\x02\x01\x80\x01\x01"))
	f.Add([]byte("\x3d"))
	f.Fuzz(func(t *testing.T, b []byte) {
		checkGot(t, b)
	})
}
