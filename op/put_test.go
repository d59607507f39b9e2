package op_test

import (
	"crypto/sha256"
	"math/rand/v2"
	"slices"
	"strings"
	"testing"

	"rolodex/api"
	"rolodex/op"
)

func checkPut(t *testing.T, o api.Op, want string) {
	t.Helper()
	if b, is := op.Put(o); string(b) != want || !is {
		t.Errorf("Put(%s) = % x, %t; want % x", told(o), b, is, want)
	}
	if many := op.Size(o); many != len(want) {
		t.Errorf("Size(%s) = %d; want %d", told(o), many, len(want))
	}
}

func checkNoPut(t *testing.T, why string, o api.Op) {
	t.Helper()
	if b, is := op.Put(o); len(b) != 0 || is {
		t.Errorf("%s: Put(%s) = % x, %t; want nothing and false", why, told(o), b, is)
	}
	if many := op.Size(o); many != 0 {
		t.Errorf("%s: Size(%s) = %d; want 0", why, told(o), many)
	}
}

func TestP15_1PutExamples(t *testing.T) {
	zeros := strings.Repeat("\x00", 15)
	x := digest("x")
	last := api.Op{Kind: asCopy, S: by(maxN, 7), No: 7, FromNo: 7}
	for i := range last.ID {
		last.ID[i], last.From[i] = byte(i), byte(200+i)
	}
	for i := range last.D {
		last.D[i] = byte(100 + i)
	}
	lastID, lastFrom, lastD := string(last.ID[:]), string(last.From[:]), string(last.D[:])
	for _, c := range []struct {
		o    api.Op
		want string
	}{
		{kill(7, 5, 0), "\x00\x07" + zeros + "\x28"},
		{kill(0, 1, 0), "\x00\x00" + zeros + "\x08"},
		{kill(255, 16, 3), "\x00\xff" + zeros + "\x81\x03"},
		{kill(255, maxN, 7), "\x00\xff" + zeros + "\x82\x80\x80\x80\x80\x80\x07"},
		{set(8, 1, 5, 0, "x"), "\x01\x08" + zeros + "\x28\x01\x01x"},
		{set(8, 0, 1, 0, ""), "\x01\x08" + zeros + "\x08\x00\x00"},
		{set(8, 7, 15, 7, scattered(127)), "\x01\x08" + zeros + "\x7f\x07\x7f" + scattered(127)},
		{set(8, 7, 16, 0, scattered(128)), "\x01\x08" + zeros + "\x81\x00\x07\x81\x00" + scattered(128)},
		{set(8, 2, 5, 1, scattered(200)), "\x01\x08" + zeros + "\x29\x02\x81\x48" + scattered(200)},
		{copyOf(8, 1, 5, 0, 7, 2, "x"), "\x02\x08" + zeros + "\x28\x01\x07" + zeros + "\x02" + x},
		{last, "\x02" + lastID + "\x82\x80\x80\x80\x80\x80\x07\x07" + lastFrom + "\x07" + lastD},
		{api.Op{Kind: asCopy, S: by(1, 1)}, "\x02\x00" + zeros + "\x09\x00\x00" + zeros + "\x00" + strings.Repeat("\x00", 32)},
		{deltaOf(7, 2, 5, 0, "x", copied(0, 3), text("!")), "\x03\x07" + zeros + "\x28\x02\x02\x01\x00\x03\x00\x01!" + x},
		{deltaOf(7, 2, 5, 0, "x"), "\x03\x07" + zeros + "\x28\x02\x00" + x},
		{deltaOf(7, 7, 5, 0, "x", copied(128, 199)), "\x03\x07" + zeros + "\x28\x07\x01\x01\x81\x00\x81\x47" + x},
	} {
		checkPut(t, c.o, c.want)
		checkGet(t, []byte(c.want), c.o, len(c.want))
	}
}

// A Set of an empty value has 20 bytes.
func TestP15_1Size(t *testing.T) {
	for _, c := range []struct {
		o    api.Op
		want int
	}{
		{set(8, 1, 5, 0, ""), 20}, {set(8, 1, 5, 0, "x"), 21}, {set(8, 1, 16, 0, ""), 21}, {set(8, 1, 5, 0, scattered(127)), 147}, {set(8, 1, 5, 0, scattered(128)), 149}, {set(8, 1, maxN, 7, scattered(200)), 227},
		{kill(8, 5, 0), 18}, {kill(8, maxN, 0), 24},
		{copyOf(8, 1, 5, 0, 7, 1, "x"), 68}, {copyOf(8, 1, maxN, 0, 7, 1, "x"), 74},
		{deltaOf(8, 1, 5, 0, "x"), 52}, {deltaOf(8, 1, 5, 0, "x", text("a")), 55}, {deltaOf(8, 1, 5, 0, "x", copied(0, 128)), 56},
	} {
		if many := op.Size(c.o); many != c.want {
			t.Errorf("Size(%s) = %d; want %d", told(c.o), many, c.want)
		}
	}
}

func TestP15_1PutOfAll(t *testing.T) {
	for _, o := range slices.Concat(goodOps(), ofEach()) {
		checkPut(t, o, string(toldPut(o)))
	}
	for no := range maxNo {
		for _, rep := range []int{0, 1, 6, 7} {
			for _, n := range []int{1, 15, 16, 17, 2047, 2048, 1 << 32, maxN - 1, maxN} {
				for _, o := range []api.Op{kill(byte(no), n, rep), set(9, no, n, rep, "v"), copyOf(9, no, n, rep, 7, 7-no, "v"), deltaOf(9, no, n, rep, "v", copied(no, 1+no))} {
					checkPut(t, o, string(toldPut(o)))
				}
			}
		}
	}
	for many := range maxVal + 1 {
		o := set(1, 1, 1, 1, scattered(many))
		checkPut(t, o, string(toldPut(o)))
	}
}

func TestP15_1PutOfWhatMayNotBeDone(t *testing.T) {
	for why, o := range badOps() {
		checkNoPut(t, why, o)
	}
}

func checkGet(t *testing.T, b []byte, want api.Op, many int) {
	t.Helper()
	if o, used, is := op.Get(b); speltOp(o) != speltOp(want) || used != many || !is {
		t.Errorf("Get(% .100x) = %s, %d, %t; want %s, %d", b, told(o), used, is, told(want), many)
	}
}

func checkGetNone(t *testing.T, why string, b []byte) {
	t.Helper()
	if o, used, is := op.Get(b); speltOp(o) != speltOp(api.Op{}) || used != 0 || is {
		t.Errorf("%s: Get(% .100x) = %s, %d, %t; want noughts and false", why, b, told(o), used, is)
	}
}

// checkGot holds a Get against the chapter's words, and what is got against what is put.
func checkGot(t *testing.T, b []byte) {
	t.Helper()
	want, many, is := toldGet(b)
	if !is {
		checkGetNone(t, "as told", b)
		return
	}
	checkGet(t, b, want, many)
	checkPut(t, want, string(b[:many]))
}

func TestP15_1GetOfWhatIsPut(t *testing.T) {
	for _, o := range slices.Concat(goodOps(), ofEach()) {
		b := toldPut(o)
		for _, behind := range []string{"", "\x00", "\x01", "\x80", "\xff", "z", string(b), "some more bytes", scattered(1000)} {
			checkGet(t, []byte(string(b)+behind), o, len(b))
		}
	}
}

func TestP15_1GetOfABeginning(t *testing.T) {
	for _, o := range slices.Concat(goodOps(), ofEach()) {
		b := toldPut(o)
		for many := range len(b) {
			checkGetNone(t, "a beginning", b[:many:many])
			// The bytes that a slice has room for, behind its length, are not its own.
			checkGetNone(t, "a beginning, with more in its room", b[:many])
		}
	}
	checkGetNone(t, "no bytes", nil)
	checkGetNone(t, "no bytes", []byte{})
}

func TestP15_1GetOfAnotherKind(t *testing.T) {
	for kind := 4; kind < 256; kind++ {
		for _, o := range ofEach() {
			b := toldPut(o)
			b[0] = byte(kind)
			checkGetNone(t, "another kind", b)
			checkGetNone(t, "another kind, with bytes behind", append(b, scattered(300)...))
		}
	}
	// What is of one kind is not got as one of another.
	for kind := range 4 {
		for _, o := range slices.Concat(goodOps(), ofEach()) {
			b := toldPut(o)
			b[0] = byte(kind)
			checkGot(t, b)
			checkGot(t, append(b, scattered(300)...))
		}
	}
}

// otherBytes are bytes that tell a number, and are not its Put.
func otherBytes(n uint64) []string {
	b := string(toldNumber(n))
	return []string{"\x80" + b, "\x80\x80" + b, strings.Repeat("\x80", 8) + b, strings.Repeat("\x80", 12) + b}
}

// bytesOf is o's bytes with others in the place of those of its stamp.
func bytesOf(o api.Op, s string) []byte {
	b := toldPut(o)
	behind := b[17+len(toldNumber(uint64(8*o.S.N+o.S.Rep))):]
	return slices.Concat(b[:17], []byte(s), behind, []byte(scattered(300)))
}

func TestP15_1GetOfAStampThatIsNone(t *testing.T) {
	for _, o := range ofEach() {
		if !slices.Equal(bytesOf(o, "\x29"), append(toldPut(o), scattered(300)...)) {
			t.Fatalf("%s: the stamp is not where it is taken to be", told(o))
		}
		for n := range uint64(8) {
			checkGetNone(t, "no time", bytesOf(o, string(toldNumber(n))))
		}
		for _, n := range []uint64{8*maxN + 8, 8*maxN + 15, 1 << 44, 1<<62 + 8, 1 << 63, 1<<64 - 1, 1<<64 - 8} {
			checkGetNone(t, "above the greatest", bytesOf(o, string(toldNumber(n))))
		}
		for _, n := range []uint64{8, 41, 127, 128, 8*maxN + 7} {
			for _, other := range otherBytes(n) {
				checkGetNone(t, "other bytes of a number", bytesOf(o, other))
			}
			o.S = by(int(n/8), int(n%8))
			checkGet(t, append(toldPut(o), "behind"...), o, len(toldPut(o)))
			o.S = by(5, 1)
		}
		for _, more := range []string{strings.Repeat("\x80", 20), strings.Repeat("\xff", 9), strings.Repeat("\xff", 20)} {
			checkGetNone(t, "bytes without an end", bytesOf(o, more))
		}
	}
}

func TestP15_1GetOfNumbersThatMayNotBe(t *testing.T) {
	for n := range 256 {
		is := n < maxNo
		for _, o := range ofEach()[asSet:] {
			o.No = n
			if b := toldPut(o); is {
				checkGet(t, b, o, len(b))
			} else {
				checkGetNone(t, "No", b)
				checkGetNone(t, "No", append(b, scattered(300)...))
			}
		}
		o := ofEach()[asCopy]
		o.FromNo = n
		if b := toldPut(o); is {
			checkGet(t, b, o, len(b))
		} else {
			checkGetNone(t, "FromNo", b)
			checkGetNone(t, "FromNo", append(b, scattered(300)...))
		}
	}
}

func TestP15_1GetOfATextThatIsNone(t *testing.T) {
	head := string(toldPut(set(7, 2, 5, 1, ""))[:19])
	for many := range maxVal + 100 {
		v := scattered(many)
		b := []byte(head + toldText(v))
		if many <= maxVal {
			checkGet(t, b, set(7, 2, 5, 1, v), len(b))
			continue
		}
		checkGetNone(t, "a long text", b)
		checkGetNone(t, "a long text", append(b, "behind"...))
	}
	for _, n := range []uint64{256, 1 << 14, 1 << 31, 1<<32 + 1, 1 << 62, 1<<63 - 1, 1 << 63, 1<<64 - 1} {
		checkGetNone(t, "a great length", []byte(head+string(toldNumber(n))+scattered(3000)))
	}
	for _, n := range []uint64{0, 1, 5, 127, 128, 200} {
		for _, other := range otherBytes(n) {
			checkGetNone(t, "other bytes of a length", []byte(head+other+scattered(3000)))
		}
	}
	checkGetNone(t, "a length without an end", []byte(head+strings.Repeat("\xff", 300)))
}

func TestP15_1GetOfPiecesThatAreNone(t *testing.T) {
	head, d := string(toldPut(deltaOf(7, 2, 5, 1, ""))[:19]), digest("v")
	for _, l := range badPieces() {
		if slices.ContainsFunc(l, notTold) {
			continue
		}
		checkGetNone(t, "pieces that may not be", []byte(head+string(toldPieces(l))+d))
		checkGetNone(t, "pieces that may not be", []byte(head+string(toldPieces(l))+d+scattered(300)))
	}
	for _, l := range goodPieces() {
		b := []byte(head + string(toldPieces(l)) + d)
		checkGet(t, b, api.Op{Kind: asDelta, ID: api.ID{7}, S: by(5, 1), No: 2, P: l, D: sha256.Sum256([]byte("v"))}, len(b))
	}
	for _, other := range []string{"\x01\x02\x01a", "\x01\x80\x01a", "\x80\x00", "\x80\x01\x00\x01a", "\x01\x00\x80\x01a", "\x01\x01\x80\x00\x01", "\x3d" + strings.Repeat("\x00\x01a", 61), strings.Repeat("\xff", 40), "\x01\x00\x00", "\x01\x01\x00\x00"} {
		checkGetNone(t, "other bytes of pieces", []byte(head+other+d))
		checkGetNone(t, "other bytes of pieces", []byte(head+other+d+scattered(300)))
	}
}

// notTold tells whether a piece has a member that its bytes don't tell.
func notTold(p api.Piece) bool {
	if p.Copy {
		return p.Lit != "" || p.From < 0 || p.Len < 0
	}
	return p.From != 0 || p.Len != 0
}

func TestP15_1GetOfChangedBytes(t *testing.T) {
	dice := rand.New(rand.NewPCG(15, 2))
	edges := []byte{0, 1, 2, 3, 4, 7, 8, 60, 61, 72, 73, 127, 128, 129, 255}
	samples := slices.Concat(goodOps(), ofEach(), ofEach(), ofEach())
	for range 40000 {
		b := toldPut(samples[dice.IntN(len(samples))])
		for range 1 + dice.IntN(3) {
			at := dice.IntN(min(len(b), 45))
			switch dice.IntN(4) {
			case 0:
				b[at] = edges[dice.IntN(len(edges))]
			case 1:
				b[at] += byte(dice.IntN(3)) - 1
			case 2:
				b = slices.Insert(b, at, edges[dice.IntN(len(edges))])
			default:
				b = append(slices.Delete(b, at, at+1), 0)
			}
		}
		checkGot(t, b)
	}
}

func TestP15_3WhatIsPutIsGot(t *testing.T) {
	dice := rand.New(rand.NewPCG(15, 3))
	all := slices.Concat(goodOps(), ofEach())
	for range 20000 {
		o := mixed(dice, all)
		b, is := op.Put(o)
		if is != toldMay(o) || len(b) != op.Size(o) {
			t.Errorf("Put(%s) = % x, %t; Size is %d", told(o), b, is, op.Size(o))
		}
		if is {
			got, many, is := op.Get(append(b, scattered(dice.IntN(9))...))
			if !is || many != len(b) || !op.Same(got, o) {
				t.Errorf("%s was put, and %s is got, of %d bytes of %d, %t", told(o), told(got), many, len(b), is)
			}
		}
	}
}

func FuzzAnyBytes(f *testing.F) {
	for _, o := range slices.Concat(goodOps(), ofEach()) {
		f.Add(toldPut(o))
	}
	f.Fuzz(func(t *testing.T, b []byte) {
		checkGot(t, b)
	})
}
