package wire_test

import (
	"bytes"
	"math"
	"slices"
	"testing"

	"rolodex/wire"
)

// numbers are the edges at which a number takes another group, and some between.
func numbers() []uint64 {
	l := []uint64{0, 1, 2, 44, 300, 1 << 40, math.MaxUint32, math.MaxInt64, math.MaxUint64, math.MaxUint64 - 1}
	for bits := 1; bits < 64; bits++ {
		edge := uint64(1) << bits
		l = append(l, edge-1, edge, edge+1)
	}
	for n, i := uint64(1), 0; i < 200; i++ {
		n = n*6364136223846793005 + 1442695040888963407
		l = append(l, n>>(i%64))
	}
	return l
}

// told is Put by division, so that it shares nothing with what is tested.
func told(n uint64) []byte {
	b := []byte{byte(n % 128)}
	for n /= 128; n > 0; n /= 128 {
		b = slices.Insert(b, 0, byte(n%128)+128)
	}
	return b
}

func behinds() []string {
	return []string{"", "\x00", "z", "\x80", "\xff\xff\xff", "some more bytes"}
}

func checkNoNumber(t *testing.T, b []byte) {
	t.Helper()
	if n, used, ok := wire.Get(b); n != 0 || used != 0 || ok {
		t.Errorf("Get(% x) = %d, %d, %t; want noughts and false", b, n, used, ok)
	}
}

func checkNoText(t *testing.T, b []byte, most int) {
	t.Helper()
	if s, used, ok := wire.Read(b, most); s != "" || used != 0 || ok {
		t.Errorf("Read(% x, %d) = %q, %d, %t; want noughts and false", b, most, s, used, ok)
	}
}

func TestP1_1PutExamples(t *testing.T) {
	for _, x := range []struct {
		n    uint64
		want []byte
	}{
		{0, []byte{0}},
		{1, []byte{1}},
		{127, []byte{127}},
		{128, []byte{129, 0}},
		{300, []byte{130, 44}},
		{16383, []byte{255, 127}},
		{16384, []byte{129, 128, 0}},
		{math.MaxInt64, []byte{255, 255, 255, 255, 255, 255, 255, 255, 127}},
		{1 << 63, []byte{129, 128, 128, 128, 128, 128, 128, 128, 128, 0}},
		{math.MaxUint64, []byte{129, 255, 255, 255, 255, 255, 255, 255, 255, 127}},
	} {
		if b := wire.Put(x.n); !bytes.Equal(b, x.want) {
			t.Errorf("Put(%d) = %v, want %v", x.n, b, x.want)
		}
		if n, used, ok := wire.Get(x.want); n != x.n || used != len(x.want) || !ok {
			t.Errorf("Get(%v) = %d, %d, %t", x.want, n, used, ok)
		}
	}
}

func TestP1_1PutAsFewGroupsAsTellIt(t *testing.T) {
	for _, n := range numbers() {
		if b := wire.Put(n); !bytes.Equal(b, told(n)) {
			t.Errorf("Put(%d) = %v, want %v", n, b, told(n))
		}
	}
}

func TestP1_1GetNone(t *testing.T) {
	rest := func(first byte, many int, last byte) []byte {
		return append(append([]byte{first}, bytes.Repeat([]byte{128}, many)...), last)
	}
	for _, b := range [][]byte{
		nil,
		{},
		{128},
		{129},
		{255},
		{130, 172},
		{128, 0},
		{128, 1},
		{128, 44, 9},
		{128, 129, 0},
		{128, 128, 128},
		bytes.Repeat([]byte{128}, 9),
		bytes.Repeat([]byte{128}, 40),
		bytes.Repeat([]byte{255}, 9),
		bytes.Repeat([]byte{255}, 10),
		bytes.Repeat([]byte{255}, 40),
		rest(130, 8, 0),
		rest(131, 8, 127),
		rest(192, 8, 0),
		rest(255, 8, 127),
		rest(128, 8, 1),
		rest(129, 9, 0),
		rest(128, 9, 1),
		rest(130, 9, 0),
		rest(129, 60, 1),
	} {
		checkNoNumber(t, b)
	}
}

func TestP1_1GetNoneOfABeginning(t *testing.T) {
	for _, n := range numbers() {
		b := wire.Put(n)
		for many := range len(b) {
			checkNoNumber(t, b[:many])
		}
	}
}

// The bytes that a slice has room for, behind its length, are not its own.
func TestP1_1GetKeepsToTheLength(t *testing.T) {
	b := []byte{130, 44}
	checkNoNumber(t, b[:1])
	checkNoNumber(t, b[:0])
}

func TestP1_2TextExamples(t *testing.T) {
	long := string(bytes.Repeat([]byte("x"), 300))
	for _, x := range []struct {
		s    string
		want string
	}{
		{"", "\x00"},
		{"ab", "\x02ab"},
		{"\x00", "\x01\x00"},
		{"\xff\xfe", "\x02\xff\xfe"},
		{"\u00e9", "\x02\xc3\xa9"},
		{long[:127], "\x7f" + long[:127]},
		{long[:128], "\x81\x00" + long[:128]},
		{long, "\x82\x2c" + long},
	} {
		if b := wire.Text(x.s); string(b) != x.want {
			t.Errorf("Text(%q) = %q", x.s, b)
		}
		for _, behind := range behinds() {
			s, used, ok := wire.Read([]byte(x.want+behind), len(x.s))
			if s != x.s || used != len(x.want) || !ok {
				t.Errorf("Read(Text(%q) and %q) = %q, %d, %t", x.s, behind, s, used, ok)
			}
		}
	}
}

func TestP1_2ReadAtMost(t *testing.T) {
	for _, many := range []int{0, 1, 2, 127, 128, 200} {
		s := string(bytes.Repeat([]byte("y"), many))
		b := append(wire.Text(s), "behind"...)
		for _, most := range []int{many, many + 1, math.MaxInt} {
			if got, used, ok := wire.Read(b, most); got != s || used != len(wire.Text(s)) || !ok {
				t.Errorf("Read of %d bytes, at most %d: %q, %d, %t", many, most, got, used, ok)
			}
		}
		for _, most := range []int{many - 1, -1, -2, math.MinInt} {
			checkNoText(t, b, most)
		}
	}
}

func TestP1_2ReadNone(t *testing.T) {
	for _, b := range []string{
		"",
		"\x01",
		"\x02a",
		"\x7f",
		"\x80",
		"\x80\x02ab",
		"\x82",
		"\x81\x00ab",
	} {
		checkNoText(t, []byte(b), 9)
		checkNoText(t, []byte(b), math.MaxInt)
	}
	text := wire.Text("a text of some bytes")
	for many := range len(text) {
		checkNoText(t, text[:many], 200)
	}
}

func TestP1_2ReadOfALengthBeyondWhatIsThere(t *testing.T) {
	for _, n := range []uint64{4, 5, 128, 1 << 31, 1 << 32, 1<<32 + 3, math.MaxInt64 - 1, math.MaxInt64, 1 << 63, 1<<63 + 3, math.MaxUint64 - 2, math.MaxUint64} {
		b := append(wire.Put(n), "abc"...)
		for _, most := range []int{-1, 0, 3, 200, math.MaxInt} {
			checkNoText(t, b, most)
		}
	}
}

func TestP1_3WordExamples(t *testing.T) {
	for _, x := range []struct {
		n    uint32
		want []byte
	}{
		{0, []byte{0, 0, 0, 0}},
		{1, []byte{0, 0, 0, 1}},
		{258, []byte{0, 0, 1, 2}},
		{0x01020304, []byte{1, 2, 3, 4}},
		{0x80000000, []byte{128, 0, 0, 0}},
		{0xfffefdfc, []byte{255, 254, 253, 252}},
		{math.MaxUint32, []byte{255, 255, 255, 255}},
	} {
		if b := wire.Word(x.n); !bytes.Equal(b, x.want) {
			t.Errorf("Word(%d) = %v, want %v", x.n, b, x.want)
		}
		if n, ok := wire.Four(x.want); n != x.n || !ok {
			t.Errorf("Four(%v) = %d, %t", x.want, n, ok)
		}
	}
}

func TestP1_3FourOfOtherThanFourBytes(t *testing.T) {
	all := []byte{1, 2, 3, 4, 5, 6, 7, 8}
	for many := range len(all) + 1 {
		if many == 4 {
			continue
		}
		if n, ok := wire.Four(all[:many]); n != 0 || ok {
			t.Errorf("Four(%v) = %d, %t; want 0 and false", all[:many], n, ok)
		}
	}
	if n, ok := wire.Four(nil); n != 0 || ok {
		t.Errorf("Four(nil) = %d, %t; want 0 and false", n, ok)
	}
}

func TestP1_4WhatIsPutIsGot(t *testing.T) {
	for _, n := range numbers() {
		for _, behind := range behinds() {
			put := wire.Put(n)
			got, used, ok := wire.Get([]byte(string(put) + behind))
			if got != n || used != len(put) || !ok {
				t.Errorf("Get(Put(%d) and %q) = %d, %d, %t", n, behind, got, used, ok)
			}
		}
		w := uint32(n)
		if got, ok := wire.Four(wire.Word(w)); got != w || !ok {
			t.Errorf("Four(Word(%d)) = %d, %t", w, got, ok)
		}
	}
}

// checkAgain holds that bytes are a number, a text or a word only if they are what is put for it.
func checkAgain(t *testing.T, b []byte) {
	t.Helper()
	if n, used, ok := wire.Get(b); ok && !(used <= len(b) && bytes.Equal(b[:used], told(n))) {
		t.Fatalf("Get(% x) = %d, %d: Put has other bytes", b, n, used)
	}
	if s, used, ok := wire.Read(b, len(b)); ok && !(used <= len(b) && bytes.Equal(b[:used], wire.Text(s))) {
		t.Fatalf("Read(% x) = %q, %d: Text has other bytes", b, s, used)
	}
	if n, ok := wire.Four(b); ok && !bytes.Equal(b, wire.Word(n)) {
		t.Fatalf("Four(% x) = %d: Word has other bytes", b, n)
	}
}

func TestP1_4NoOtherBytesAreGot(t *testing.T) {
	begins := map[string]uint64{}
	for n := range uint64(1 << 14) {
		begins[string(told(n))] = n
	}
	for one := range 256 {
		for two := range 256 {
			b := []byte{byte(one), byte(two)}
			want, many := begins[string(b[:1])], 1
			if one >= 128 {
				want, many = begins[string(b)], 2
			}
			_, is := begins[string(b[:many])]
			if !is {
				want, many = 0, 0
			}
			if n, used, ok := wire.Get(b); n != want || used != many || ok != is {
				t.Fatalf("Get(% x) = %d, %d, %t; want %d, %d, %t", b, n, used, ok, want, many, is)
			}
			checkAgain(t, b)
		}
	}
}

func TestP1_4WhatIsGotIsPutAgain(t *testing.T) {
	// Bytes at the edges of groups, at every length up to one more than a number has.
	edges := []byte{0, 1, 127, 128, 129, 130, 255}
	for many := range 12 {
		b := bytes.Repeat([]byte{128}, many)
		for i := range b {
			for j := range b {
				for _, x := range edges {
					for _, y := range edges {
						c := bytes.Clone(b)
						c[i], c[j] = x, y
						checkAgain(t, c)
					}
				}
			}
		}
	}
}

func FuzzAnyBytes(f *testing.F) {
	f.Add([]byte(nil))
	f.Add([]byte{130, 44})
	f.Add([]byte("\x02abc"))
	f.Add([]byte{129, 255, 255, 255, 255, 255, 255, 255, 255, 127})
	f.Fuzz(func(t *testing.T, b []byte) {
		checkAgain(t, b)
		if _, used, ok := wire.Get(b); !ok && used != 0 {
			t.Errorf("Get(% x): false, and %d bytes", b, used)
		}
	})
}

func TestR3NothingIsShared(t *testing.T) {
	in := []byte("\x02abc")
	before := bytes.Clone(in)
	s, _, _ := wire.Read(in, 2)
	wire.Get(in)
	wire.Four(in)
	if !bytes.Equal(in, before) {
		t.Errorf("what was handed in is % x now", in)
	}
	in[1] = 'z'
	if s != "ab" {
		t.Errorf("the text that was read is %q now", s)
	}
	for name, put := range map[string]func() []byte{
		"Put":  func() []byte { return wire.Put(300) },
		"Text": func() []byte { return wire.Text("ab") },
		"Word": func() []byte { return wire.Word(258) },
	} {
		first := put()
		want := bytes.Clone(first)
		clear(first)
		if again := put(); !bytes.Equal(again, want) {
			t.Errorf("%s answers % x, and then % x", name, want, again)
		}
	}
}
