package manic_test

import (
	"bytes"
	"fmt"
	"math"
	"math/rand/v2"
	"slices"
	"strings"
	"testing"

	"rolodex/api"
	"rolodex/manic"
)

// edges are numbers at which something may wrap around, or be of another kind.
func edges() []int {
	return []int{math.MinInt, math.MinInt + 1, -(1 << 32), -1, 0, 1, 7, 8, 23, 24, 200, 201, 1 << 31, 1 << 32, maxN, maxN + 1, math.MaxInt - 1, math.MaxInt}
}

// What may not be, and great numbers: each call ends, and none panics.
func TestR1PutOfAnything(t *testing.T) {
	check := func(m api.Manifest) {
		if toldMay(m) {
			checkPut(t, "of great numbers", m, laid(m))
		} else {
			checkNotPut(t, "of great numbers", m)
		}
	}
	for _, n := range edges() {
		for _, k := range edges() {
			check(lines(line(1, by(n, k))))
			check(one(entry(k, by(n, k), "a")))
			check(lines(line(1, by(k, n), entry(0, by(n, k), "a"))))
			for _, blocks := range []int{0, 3, 25, 26} {
				check(lines(line(1, by(0, 0), api.Entry{No: k, S: by(1, 0), Len: n, B: make([]api.Sig, blocks)})))
				check(lines(line(1, by(n, k), api.Entry{No: n, S: by(k, n), Len: k, B: make([]api.Sig, blocks)})))
			}
		}
	}
}

func TestR1PutOfVeryMany(t *testing.T) {
	const many = 1 << 18
	checkNotPut(t, "lines", lines(make([]api.Line, many)...))
	checkNotPut(t, "entries", one(make([]api.Entry, many)...))
	checkNotPut(t, "blocks", one(api.Entry{S: by(1, 0), Len: 200, B: make([]api.Sig, many)}))
	checkNotPut(t, "lines of one name", lines(slices.Repeat(rising(1), many)...))
}

// Any bytes, as they are, and in a section of the kind: each call ends, and none panics.
func TestR1GetOfAnyBytes(t *testing.T) {
	checkGet(t, "")
	for one := range 256 {
		for two := range 256 {
			s := string([]byte{byte(one), byte(two)})
			checkGet(t, s)
			checkGet(t, packed(1, s))
			checkGet(t, packed(1, strings.Repeat("B", 32)+s))
			checkGet(t, packed(1, strings.Repeat("B", 32)+"\x01"+strings.Repeat("I", 16)+s))
		}
	}
	dice := rand.New(rand.NewPCG(13, 1))
	for range 20000 {
		b := make([]byte, dice.IntN(200))
		for i := range b {
			// Small bytes come often: they are what most parts begin by.
			b[i] = byte(dice.IntN(256) >> (dice.IntN(2) * dice.IntN(8)))
		}
		checkGet(t, string(b))
		checkGet(t, packed(1, string(b)))
	}
}

func TestR1GetOfVeryManyBytes(t *testing.T) {
	for _, part := range []string{"\x00", "\x01", "\x08", "\x0a", "\x7f", "\x80", "\xff", "\x01\x80", strings.Repeat("I", 16) + "\x08\x00"} {
		s := strings.Repeat(part, 100000/len(part))
		checkGet(t, packed(1, s))
		checkGet(t, packed(1, strings.Repeat("B", 32)+s[:len(s)-32]))
		checkGet(t, packed(1, strings.Repeat("B", 32)+"\x0a"+s[:len(s)-33]))
		checkGet(t, strings.Repeat(part, 1<<20))
		checkGet(t, laid(lines())+strings.Repeat(part, 1<<20))
		// A section has at most 100000 bytes: this is none.
		checkGet(t, packed(1, strings.Repeat(part, 1<<17)))
	}
}

const spare = 5

// roomy is the same manifest with room behind all lists: there a careless call would write.
func roomy(m api.Manifest) api.Manifest {
	m.L = append(make([]api.Line, 0, len(m.L)+spare), m.L...)
	for i, l := range m.L {
		m.L[i].F = append(make([]api.Entry, 0, len(l.F)+spare), l.F...)
		for j, e := range l.F {
			m.L[i].F[j].B = append(make([]api.Sig, 0, len(e.B)+spare), e.B...)
		}
	}
	return m
}

// whole is all that a roomy manifest has room for, as a text.
func whole(m api.Manifest) string {
	s := fmt.Sprint(m.L[:cap(m.L)], m)
	for _, l := range m.L {
		s += fmt.Sprint(l.F[:cap(l.F)])
		for _, e := range l.F {
			s += fmt.Sprint(e.B[:cap(e.B)])
		}
	}
	return s
}

// spoil writes over all of a manifest's lists, and the room behind them.
func spoil(m api.Manifest) {
	for _, l := range m.L {
		spoilLine(l)
	}
	for i := range m.L[:cap(m.L)] {
		m.L[:cap(m.L)][i] = line(99, by(77, 7))
	}
}

func spoilLine(l api.Line) {
	for _, e := range l.F {
		spoilEntry(e)
	}
	for i := range l.F[:cap(l.F)] {
		l.F[:cap(l.F)][i] = entry(6, by(77, 7), "changed")
	}
}

func spoilEntry(e api.Entry) {
	for i := range e.B[:cap(e.B)] {
		e.B[:cap(e.B)][i] = api.Sig{Weak: 77}
	}
}

// spoilBytes writes over all of a list, and the room behind it.
func spoilBytes(b []byte) {
	for i := range b[:cap(b)] {
		b[:cap(b)][i] ^= 255
	}
}

func TestR3PutChangesNothing(t *testing.T) {
	for _, m := range goodManifests() {
		in := roomy(m)
		was := whole(in)
		p, _ := manic.Put(in)
		if whole(in) != was {
			t.Errorf("%s was handed in, and is %s now", told(m), told(in))
		}
		// Neither a change to the answer nor one in its room reaches the manifest, or another answer.
		other, _ := manic.Put(in)
		spoilBytes(p)
		if again, _ := manic.Put(in); whole(in) != was || string(other) != laid(m) || string(again) != laid(m) {
			t.Errorf("Put(%s) is %s, and %s, behind a change to an answer", told(in), shown(string(other)), shown(string(again)))
		}
		spoil(in)
		if string(other) != laid(m) {
			t.Errorf("Put(%s) is %s behind a change to the manifest", told(m), shown(string(other)))
		}
	}
}

func TestR3PutOfWhatMayNotBeChangesNothing(t *testing.T) {
	for _, x := range append(badManifests(), untold()...) {
		in := roomy(x.m)
		was := whole(in)
		manic.Put(in)
		if whole(in) != was {
			t.Errorf("%s was handed in, and is %s now", told(x.m), told(in))
		}
	}
}

func TestR3GetSharesNothing(t *testing.T) {
	for _, m := range goodManifests() {
		p := laid(m)
		in := append(make([]byte, 0, len(p)+64), p...)
		was := bytes.Clone(in[:cap(in)])
		got, _ := manic.Get(in)
		if !bytes.Equal(in[:cap(in)], was) {
			t.Errorf("%s was handed in, and is %s now", shown(p), shown(string(in)))
		}
		spoilBytes(in)
		if body(got) != body(m) {
			t.Errorf("%s was got, and is %s behind a change to the bytes", told(m), told(got))
		}
		in = []byte(p)
		got, _ = manic.Get(in)
		other, _ := manic.Get(in)
		spoil(got)
		if again, _ := manic.Get(in); string(in) != p || body(other) != body(m) || body(again) != body(m) {
			t.Errorf("Get(%s) is %s, and %s, behind a change to an answer", shown(p), told(other), told(again))
		}
	}
}

// Also of bytes of no manifest that may be: they stay as they were.
func TestR3GetOfWhatMayNotBeChangesNothing(t *testing.T) {
	for _, x := range badManifests() {
		p := laid(x.m)
		for _, b := range []string{p, p + "x", p[:len(p)-1], body(x.m), packed(2, body(x.m))} {
			in := append(make([]byte, 0, len(b)+64), b...)
			was := bytes.Clone(in[:cap(in)])
			manic.Get(in)
			if !bytes.Equal(in[:cap(in)], was) {
				t.Errorf("%s was handed in, and is %s now", shown(b), shown(string(in)))
			}
		}
	}
}

// One list of an answer may be changed and gone on with, and the others stay.
func TestR3ListsOfOneAnswerShareNothing(t *testing.T) {
	for _, m := range goodManifests() {
		p := []byte(laid(m))
		for i, l := range m.L {
			got, _ := manic.Get(p)
			spoilLine(got.L[i])
			got.L[i] = l
			if body(got) != body(m) {
				t.Errorf("a change to the line %d of %s has made %s of it", i, told(m), told(got))
			}
			for j, e := range l.F {
				got, _ := manic.Get(p)
				spoilEntry(got.L[i].F[j])
				got.L[i].F[j] = e
				if body(got) != body(m) {
					t.Errorf("a change to the blocks of %d, %d of %s has made %s of it", i, j, told(m), told(got))
				}
			}
		}
	}
}

// An answer hangs on nothing that was asked before.
func TestR5AskedAgain(t *testing.T) {
	m := lines(line(7, by(2, 3), entry(0, by(3, 4), scattered(30))), line(9, by(0, 0), entry(1, by(1, 0), "x")))
	for _, x := range append(badManifests(), untold()...) {
		manic.Put(x.m)
		manic.Get([]byte(laid(x.m)))
		manic.Get([]byte(laid(m))[:20])
		manic.Get([]byte(packed(1, body(m)[:80])))
		checkPut(t, x.why+" asked", m, laid(m))
		checkGot(t, x.why+" asked", laid(m), m)
	}
	for _, x := range goodManifests() {
		manic.Put(x)
		manic.Get([]byte(laid(x)))
		checkPut(t, "another one asked", m, laid(m))
		checkGot(t, "another one asked", laid(m), m)
		checkNot(t, "another one asked", packed(1, body(m)[:80]), api.ErrForm)
	}
}
