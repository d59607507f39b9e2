package sha_test

import (
	"bytes"
	"crypto/sha256"
	"encoding/hex"
	"slices"
	"strings"
	"testing"

	"rolodex/api"
	"rolodex/sha"
)

// scattered is many bytes of which no two neighbours hang on each other.
func scattered(many int) []byte {
	b := make([]byte, many)
	n := uint64(many)
	for i := range b {
		n = n*6364136223846793005 + 1442695040888963407
		b[i] = byte(n >> 56)
	}
	return b
}

// edges is how many bytes stand about the ends of blocks, and about where the count of bits no longer fits one.
func edges() []int {
	return []int{0, 1, 3, 54, 55, 56, 57, 63, 64, 65, 118, 119, 120, 121, 127, 128, 129, 183, 184, 191, 192, 193}
}

func digestOf(t *testing.T, text string) api.Digest {
	t.Helper()
	b, err := hex.DecodeString(text)
	if err != nil || len(b) != len(api.Digest{}) {
		t.Fatalf("%q is no digest", text)
	}
	return api.Digest(b)
}

func checkSum(t *testing.T, b []byte) {
	t.Helper()
	was := bytes.Clone(b)
	if got, want := sha.Sum(b), api.Digest(sha256.Sum256(was)); got != want {
		t.Errorf("Sum of %d bytes = %x, want %x", len(b), got, want)
	}
	if !bytes.Equal(b, was) {
		t.Errorf("Sum of %d bytes changed them", len(b))
	}
}

// The digests are those that are published for SHA-256.
func TestP3_1SumExamples(t *testing.T) {
	for _, x := range []struct{ text, want string }{
		{"", "e3b0c44298fc1c149afbf4c8996fb92427ae41e4649b934ca495991b7852b855"},
		{"a", "ca978112ca1bbdcafac231b39a23dc4da786eff8147c4e72b9807785afee48bb"},
		{"abc", "ba7816bf8f01cfea414140de5dae2223b00361a396177a9cb410ff61f20015ad"},
		{"abcdbcdecdefdefgefghfghighijhijkijkljklmklmnlmnomnopnopq", "248d6a61d20638b8e5c026930c3e6039a33ce45964ff2167f6ecedd419db06c1"},
		{"abcdefghbcdefghicdefghijdefghijkefghijklfghijklmghijklmnhijklmnoijklmnopjklmnopqklmnopqrlmnopqrsmnopqrstnopqrstu", "cf5b16a778af8380036ce59e7b0492370b249b11e8f07a51afac45037afee9d1"},
		{strings.Repeat("a", 1000000), "cdc76e5c9914fb9281a1c7e284d73e67f1809a48a497200e046d39ccc7112cd0"},
	} {
		if got, want := sha.Sum([]byte(x.text)), digestOf(t, x.want); got != want {
			t.Errorf("Sum(%.60q) = %x, want %x", x.text, got, want)
		}
	}
	if got, want := sha.Sum(nil), sha.Sum([]byte{}); got != want {
		t.Errorf("Sum(nil) = %x, want %x", got, want)
	}
	if d := sha.Sum([]byte("abc")); !bytes.Equal(d[:4], []byte{186, 120, 22, 191}) {
		t.Errorf("Sum of abc begins by %v", d[:4])
	}
}

func TestP3_1SumAtTheEdges(t *testing.T) {
	for _, many := range edges() {
		checkSum(t, scattered(many))
		checkSum(t, make([]byte, many))
		checkSum(t, bytes.Repeat([]byte{128}, many))
		checkSum(t, bytes.Repeat([]byte{255}, many))
	}
}

func TestP3_1SumOfEachLength(t *testing.T) {
	for many := range 600 {
		checkSum(t, scattered(many))
	}
}

func TestP3_1SumOfEachByte(t *testing.T) {
	for one := range 256 {
		checkSum(t, []byte{byte(one)})
	}
}

// From 2^13 bytes on the bits are counted by three bytes, from 2^21 on by four.
func TestP3_1SumOfManyBytes(t *testing.T) {
	for _, many := range []int{8191, 8192, 8193, 100000, 1<<21 - 1, 1 << 21, 1<<21 + 1} {
		checkSum(t, scattered(many))
	}
}

// What a caller has room for behind the bytes is the caller's own, too, and is no part of the sum.
func TestP3_1SumLeavesTheRoomBehind(t *testing.T) {
	for _, many := range edges() {
		all := scattered(many + 200)
		was := bytes.Clone(all)
		if got, want := sha.Sum(all[:many]), api.Digest(sha256.Sum256(was[:many])); got != want {
			t.Errorf("Sum of %d bytes with more behind = %x, want %x", many, got, want)
		}
		if !bytes.Equal(all, was) {
			t.Errorf("Sum of %d bytes changed them, or what stands behind", many)
		}
	}
}

func FuzzSum(f *testing.F) {
	for _, many := range edges() {
		f.Add(scattered(many))
	}
	f.Fuzz(func(t *testing.T, b []byte) {
		checkSum(t, b)
	})
}

func TestP3_2OfIsSumOfTheBytes(t *testing.T) {
	texts := []string{"", "a", "abc", "\x00", "\xff\xfe", "h\u00e9llo \u4e16\u754c", "\xc3\x28 is no rune", strings.Repeat("\x80", 200)}
	for _, many := range append(edges(), 100000) {
		texts = append(texts, string(scattered(many)))
	}
	for _, s := range texts {
		if got, want := sha.Of(s), api.Digest(sha256.Sum256([]byte(s))); got != want || got != sha.Sum([]byte(s)) {
			t.Errorf("Of(%.60q) = %x, want %x", s, got, want)
		}
	}
}

func checkLess(t *testing.T, low, high api.Digest) {
	t.Helper()
	if !sha.Less(low, high) {
		t.Errorf("Less(%x, %x) is false", low, high)
	}
	if sha.Less(high, low) {
		t.Errorf("Less(%x, %x) is true", high, low)
	}
}

func TestP3_2LessAtEachByte(t *testing.T) {
	for at := range len(api.Digest{}) {
		for _, x := range []struct{ low, high byte }{{0, 1}, {0, 255}, {1, 2}, {127, 128}, {9, 10}, {254, 255}} {
			low, high := sha.Of("the same ahead"), sha.Of("the same ahead")
			low[at], high[at] = x.low, x.high
			checkLess(t, low, high)
			// What stands behind the first byte that differs says nothing, however it stands.
			for behind := at + 1; behind < len(low); behind++ {
				low[behind], high[behind] = 255, 0
			}
			checkLess(t, low, high)
		}
	}
}

func TestP3_2LessAtTheEnds(t *testing.T) {
	var least, greatest api.Digest
	for i := range greatest {
		greatest[i] = 255
	}
	checkLess(t, least, greatest)
	checkLess(t, least, api.Digest{31: 1})
	checkLess(t, api.Digest{31: 255}, api.Digest{0: 1})
	checkLess(t, api.Digest{15: 255, 31: 255}, api.Digest{14: 1})
}

func TestP3_2NoneIsLessThanItself(t *testing.T) {
	for _, d := range someDigests() {
		if sha.Less(d, d) {
			t.Errorf("Less(%x, the same) is true", d)
		}
	}
}

func someDigests() []api.Digest {
	all := []api.Digest{{}}
	for at := range len(api.Digest{}) {
		for _, x := range []byte{1, 127, 128, 255} {
			var d api.Digest
			d[at] = x
			all = append(all, d)
		}
	}
	for many := range 60 {
		all = append(all, sha.Sum(scattered(many)))
	}
	return all
}

func TestP3_3OneIsLessOrTheyAreTheSame(t *testing.T) {
	for _, a := range someDigests() {
		for _, b := range someDigests() {
			holds := 0
			for _, one := range []bool{sha.Less(a, b), sha.Less(b, a), a == b} {
				if one {
					holds++
				}
			}
			if holds != 1 {
				t.Errorf("of %x and %x: less %t, greater %t, the same %t", a, b, sha.Less(a, b), sha.Less(b, a), a == b)
			}
			if got, want := sha.Less(a, b), bytes.Compare(a[:], b[:]) < 0; got != want {
				t.Errorf("Less(%x, %x) = %t", a, b, got)
			}
		}
	}
}

// With the least of them ahead all are in one order, whatever order they had.
func TestP3_3DigestsHaveOneOrder(t *testing.T) {
	ahead := func(a, b api.Digest) int {
		switch {
		case sha.Less(a, b):
			return -1
		case sha.Less(b, a):
			return 1
		}
		return 0
	}
	one, other := someDigests(), someDigests()
	slices.Reverse(other)
	slices.SortFunc(one, ahead)
	slices.SortFunc(other, ahead)
	if !slices.Equal(one, other) {
		t.Error("two orders of the same digests")
	}
	for i := range len(one) - 1 {
		checkLess(t, one[i], one[i+1])
	}
}

func TestR3TheAnswerIsTheCallersOwn(t *testing.T) {
	b := []byte("abc")
	d := sha.Sum(b)
	want := d
	clear(b)
	if d != want {
		t.Errorf("the digest is %x now, want %x", d, want)
	}
	clear(d[:])
	if again := sha.Of("abc"); again != want {
		t.Errorf("Of(abc) = %x behind a change to an answer, want %x", again, want)
	}
}

// An answer hangs on nothing that was asked before.
func TestR5AskedAgain(t *testing.T) {
	first := sha.Sum(scattered(200))
	for _, many := range edges() {
		sha.Sum(scattered(many))
	}
	if again := sha.Sum(scattered(200)); again != first {
		t.Errorf("Sum = %x, asked again %x", first, again)
	}
}
