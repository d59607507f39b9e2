package stamp_test

import (
	"bytes"
	"math"
	"slices"
	"testing"

	"rolodex/api"
	"rolodex/stamp"
	"rolodex/wire"
)

const maxN = 1 << 40

// good is stamps that may be: the ends of N and Rep, those at which the bytes become one more, and some between.
func good() []api.Stamp {
	all := []api.Stamp{{}}
	ns := []int{1, 2, 3, 4, 1000, maxN - 2, maxN - 1, maxN}
	for bits := 3; bits < 40; bits++ {
		ns = append(ns, 1<<bits-1, 1<<bits, 1<<bits+1)
	}
	slices.Sort(ns)
	for _, n := range slices.Compact(ns) {
		for rep := range 8 {
			all = append(all, api.Stamp{N: n, Rep: rep})
		}
	}
	return all
}

// bad is stamps that may not be.
func bad() []api.Stamp {
	var all []api.Stamp
	for _, rep := range []int{1, 2, 7, 8, -1, math.MaxInt, math.MinInt} {
		all = append(all, api.Stamp{Rep: rep})
	}
	for _, n := range []int{-1, -2, -maxN, math.MinInt, maxN + 1, maxN + 2, 2 * maxN, 1 << 60, 1 << 61, 1<<61 + 1, math.MaxInt} {
		for _, rep := range []int{0, 1, 7, 8, -1} {
			all = append(all, api.Stamp{N: n, Rep: rep})
		}
	}
	for _, n := range []int{1, 2, 3, maxN - 1, maxN} {
		for _, rep := range []int{-1, -8, 8, 9, 15, 16, math.MaxInt, math.MinInt} {
			all = append(all, api.Stamp{N: n, Rep: rep})
		}
	}
	return all
}

func TestP4_1May(t *testing.T) {
	for _, s := range good() {
		if !stamp.May(s) {
			t.Errorf("May(%v) is false", s)
		}
	}
	for _, s := range bad() {
		if stamp.May(s) {
			t.Errorf("May(%v) is true", s)
		}
	}
}

func TestP4_1MayAtTheEdges(t *testing.T) {
	for _, x := range []struct {
		n, rep int
		want   bool
	}{
		{0, 0, true},
		{0, 1, false},
		{0, 7, false},
		{0, -1, false},
		{1, 0, true},
		{1, 7, true},
		{1, 8, false},
		{1, -1, false},
		{-1, 0, false},
		{-1, -1, false},
		{1 << 40, 0, true},
		{1 << 40, 7, true},
		{1 << 40, 8, false},
		{1<<40 + 1, 0, false},
		{1<<40 + 1, 7, false},
	} {
		if got := stamp.May(api.Stamp{N: x.n, Rep: x.rep}); got != x.want {
			t.Errorf("May of %d by %d is %t", x.n, x.rep, got)
		}
	}
}

func checkLess(t *testing.T, low, high api.Stamp) {
	t.Helper()
	if !stamp.Less(low, high) {
		t.Errorf("Less(%v, %v) is false", low, high)
	}
	if stamp.Less(high, low) {
		t.Errorf("Less(%v, %v) is true", high, low)
	}
	if got := stamp.Max(low, high); got != high {
		t.Errorf("Max(%v, %v) = %v", low, high, got)
	}
	if got := stamp.Max(high, low); got != high {
		t.Errorf("Max(%v, %v) = %v", high, low, got)
	}
}

func TestP4_1LessAndMax(t *testing.T) {
	for _, x := range []struct{ low, high api.Stamp }{
		{api.Stamp{}, api.Stamp{N: 1}},
		{api.Stamp{}, api.Stamp{N: 1, Rep: 7}},
		{api.Stamp{N: 3, Rep: 2}, api.Stamp{N: 4, Rep: 2}},
		{api.Stamp{N: 3, Rep: 7}, api.Stamp{N: 4}},
		{api.Stamp{N: 3, Rep: 2}, api.Stamp{N: 4, Rep: 5}},
		{api.Stamp{N: 3, Rep: 2}, api.Stamp{N: 3, Rep: 3}},
		{api.Stamp{N: 3}, api.Stamp{N: 3, Rep: 7}},
		{api.Stamp{N: 1, Rep: 7}, api.Stamp{N: maxN}},
		{api.Stamp{N: maxN - 1, Rep: 7}, api.Stamp{N: maxN}},
	} {
		checkLess(t, x.low, x.high)
	}
}

// Less and Max ask nothing of whether a stamp may be, and don't wrap around at the ends.
func TestP4_1LessAndMaxOfWhatMayNotBe(t *testing.T) {
	for _, x := range []struct{ low, high api.Stamp }{
		{api.Stamp{N: -1}, api.Stamp{}},
		{api.Stamp{N: -2, Rep: 9}, api.Stamp{N: -1, Rep: -9}},
		{api.Stamp{Rep: -1}, api.Stamp{}},
		{api.Stamp{}, api.Stamp{Rep: 1}},
		{api.Stamp{N: 3, Rep: 7}, api.Stamp{N: 3, Rep: 8}},
		{api.Stamp{N: 3, Rep: 800}, api.Stamp{N: 4, Rep: -800}},
		{api.Stamp{N: math.MinInt}, api.Stamp{N: math.MaxInt}},
		{api.Stamp{N: 1, Rep: math.MinInt}, api.Stamp{N: 1, Rep: math.MaxInt}},
		{api.Stamp{N: math.MinInt, Rep: math.MaxInt}, api.Stamp{N: 1, Rep: math.MinInt}},
		{api.Stamp{N: 1}, api.Stamp{N: 1<<61 + 1}},
	} {
		checkLess(t, x.low, x.high)
	}
}

func TestP4_1AStampAndItself(t *testing.T) {
	for _, s := range append(good(), bad()...) {
		if stamp.Less(s, s) {
			t.Errorf("Less(%v, the same) is true", s)
		}
		if got := stamp.Max(s, s); got != s {
			t.Errorf("Max(%v, the same) = %v", s, got)
		}
	}
}

func checkNext(t *testing.T, s api.Stamp, rep int, want api.Stamp, e api.Errno) {
	t.Helper()
	if got, err := stamp.Next(s, rep); got != want || err != e {
		t.Errorf("Next(%v, %d) = %v, %d; want %v, %d", s, rep, got, err, want, e)
	}
}

func TestP4_2NextExamples(t *testing.T) {
	checkNext(t, api.Stamp{N: 3, Rep: 2}, 1, api.Stamp{N: 4, Rep: 1}, api.OK)
	checkNext(t, api.Stamp{N: 3, Rep: 2}, 2, api.Stamp{N: 4, Rep: 2}, api.OK)
	checkNext(t, api.Stamp{N: 3, Rep: 2}, 7, api.Stamp{N: 4, Rep: 7}, api.OK)
	checkNext(t, api.Stamp{}, 0, api.Stamp{N: 1}, api.OK)
	checkNext(t, api.Stamp{}, 1, api.Stamp{N: 1, Rep: 1}, api.OK)
	checkNext(t, api.Stamp{}, 7, api.Stamp{N: 1, Rep: 7}, api.OK)
	checkNext(t, api.Stamp{N: 1, Rep: 1}, 3, api.Stamp{N: 2, Rep: 3}, api.OK)
	checkNext(t, api.Stamp{N: maxN - 1, Rep: 5}, 0, api.Stamp{N: maxN}, api.OK)
	checkNext(t, api.Stamp{N: maxN - 1}, 7, api.Stamp{N: maxN, Rep: 7}, api.OK)
}

func TestP4_2NextOfEach(t *testing.T) {
	for _, s := range good() {
		for rep := range 8 {
			if s.N == maxN {
				checkNext(t, s, rep, api.Stamp{}, api.ErrLarge)
				continue
			}
			checkNext(t, s, rep, api.Stamp{N: s.N + 1, Rep: rep}, api.OK)
		}
	}
}

func TestP4_2NextOfWhatMayNotBe(t *testing.T) {
	for _, s := range bad() {
		for _, rep := range []int{0, 2, 7, 8, -1} {
			checkNext(t, s, rep, api.Stamp{}, api.ErrArg)
		}
	}
}

// At N of 2^40 a wrong replica is told, for it is named first.
func TestP4_2NextByNoReplica(t *testing.T) {
	for _, s := range []api.Stamp{{}, {N: 1}, {N: 3, Rep: 2}, {N: maxN - 1, Rep: 7}, {N: maxN}, {N: maxN, Rep: 7}} {
		for _, rep := range []int{-1, -2, -8, 8, 9, 16, math.MaxInt, math.MinInt} {
			checkNext(t, s, rep, api.Stamp{}, api.ErrArg)
		}
	}
}

func TestP4_3PutExamples(t *testing.T) {
	for _, x := range []struct {
		s    api.Stamp
		want []byte
	}{
		{api.Stamp{}, []byte{0}},
		{api.Stamp{N: 1}, []byte{8}},
		{api.Stamp{N: 1, Rep: 7}, []byte{15}},
		{api.Stamp{N: 3, Rep: 2}, []byte{26}},
		{api.Stamp{N: 15, Rep: 7}, []byte{127}},
		{api.Stamp{N: 16}, []byte{129, 0}},
		{api.Stamp{N: 37, Rep: 4}, []byte{130, 44}},
		{api.Stamp{N: maxN}, []byte{130, 128, 128, 128, 128, 128, 0}},
		{api.Stamp{N: maxN, Rep: 7}, []byte{130, 128, 128, 128, 128, 128, 7}},
	} {
		if b, is := stamp.Put(x.s); !bytes.Equal(b, x.want) || !is {
			t.Errorf("Put(%v) = %v, %t; want %v", x.s, b, is, x.want)
		}
		if s, used, is := stamp.Get(x.want); s != x.s || used != len(x.want) || !is {
			t.Errorf("Get(%v) = %v, %d, %t; want %v", x.want, s, used, is, x.s)
		}
	}
}

func TestP4_3PutOfEach(t *testing.T) {
	for _, s := range good() {
		want := wire.Put(8*uint64(s.N) + uint64(s.Rep))
		if b, is := stamp.Put(s); !bytes.Equal(b, want) || !is {
			t.Errorf("Put(%v) = %v, %t; want %v", s, b, is, want)
		}
	}
}

func TestP4_3PutOfWhatMayNotBe(t *testing.T) {
	for _, s := range bad() {
		if b, is := stamp.Put(s); len(b) != 0 || is {
			t.Errorf("Put(%v) = %v, %t; want nothing and false", s, b, is)
		}
	}
}

func checkNone(t *testing.T, b []byte) {
	t.Helper()
	if s, used, is := stamp.Get(b); s != (api.Stamp{}) || used != 0 || is {
		t.Errorf("Get(% x) = %v, %d, %t; want noughts and false", b, s, used, is)
	}
}

func behinds() []string {
	return []string{"", "\x00", "z", "\x80", "\xff\xff\xff", "some more bytes"}
}

func TestP4_3GetOfANumberThatIsNoStamps(t *testing.T) {
	numbers := []uint64{1, 2, 3, 4, 5, 6, 7}
	for _, n := range []uint64{maxN + 1, maxN + 2, 2 * maxN, 1 << 60, 1<<61 - 1} {
		numbers = append(numbers, 8*n, 8*n+1, 8*n+7)
	}
	numbers = append(numbers, math.MaxInt64, 1<<63, 1<<63+8, math.MaxUint64-7, math.MaxUint64)
	for _, n := range numbers {
		for _, behind := range behinds() {
			checkNone(t, []byte(string(wire.Put(n))+behind))
		}
	}
}

func TestP4_3GetOfNoNumber(t *testing.T) {
	for _, b := range []string{
		"",
		"\x80",
		"\x80\x00",
		"\x80\x08",
		"\x80\x1a",
		"\x81",
		"\x82\xac",
		"\xff\xff\xff\xff\xff\xff\xff\xff\xff",
		"\x82\x80\x80\x80\x80\x80\x80\x80\x80\x08",
		"\xff\xff\xff\xff\xff\xff\xff\xff\xff\x7f",
		"\x81\x80\x80\x80\x80\x80\x80\x80\x80\x80\x08",
	} {
		checkNone(t, []byte(b))
	}
	checkNone(t, nil)
}

// The bytes that a slice has room for, behind its length, are not its own.
func TestP4_3GetOfABeginning(t *testing.T) {
	for _, s := range good() {
		b, _ := stamp.Put(s)
		for many := range len(b) {
			checkNone(t, b[:many])
		}
	}
}

func TestP4_4OneIsLessOrTheyAreTheSame(t *testing.T) {
	all := append(good(), bad()...)
	for _, a := range all {
		for _, b := range all {
			holds := 0
			for _, one := range []bool{stamp.Less(a, b), stamp.Less(b, a), a == b} {
				if one {
					holds++
				}
			}
			if holds != 1 {
				t.Errorf("of %v and %v: less %t, greater %t, the same %t", a, b, stamp.Less(a, b), stamp.Less(b, a), a == b)
			}
			max := stamp.Max(a, b)
			if max != stamp.Max(b, a) || stamp.Less(max, a) || stamp.Less(max, b) || max != a && max != b {
				t.Errorf("Max(%v, %v) = %v, the other way %v", a, b, max, stamp.Max(b, a))
			}
		}
	}
}

// Those of good stand in their order, so each is less than all behind it.
func TestP4_4StampsHaveOneOrder(t *testing.T) {
	all := good()
	for i, low := range all {
		for _, high := range all[i+1:] {
			checkLess(t, low, high)
		}
	}
}

func TestP4_4WhatIsNextIsGreater(t *testing.T) {
	for _, s := range good() {
		for rep := range 8 {
			next, err := stamp.Next(s, rep)
			if s.N == maxN {
				continue
			}
			if err != api.OK || !stamp.May(next) {
				t.Errorf("Next(%v, %d) = %v, %d", s, rep, next, err)
			}
			checkLess(t, s, next)
		}
	}
}

func TestP4_4WhatIsPutIsGot(t *testing.T) {
	for _, s := range good() {
		b, is := stamp.Put(s)
		if !is {
			t.Errorf("Put(%v) is false", s)
		}
		for _, behind := range behinds() {
			if got, used, is := stamp.Get([]byte(string(b) + behind)); got != s || used != len(b) || !is {
				t.Errorf("Get(Put(%v) and %q) = %v, %d, %t", s, behind, got, used, is)
			}
		}
	}
}

// checkAgain holds that bytes are a stamp's only if they are what is put for it, and no stamp's only if none is put so.
func checkAgain(t *testing.T, b []byte) {
	t.Helper()
	s, used, is := stamp.Get(b)
	n, many, number := wire.Get(b)
	if want := number && (n == 0 || n >= 8 && n <= 8*maxN+7); is != want {
		t.Fatalf("Get(% x) = %v, %d, %t", b, s, used, is)
	}
	if !is {
		checkNone(t, b)
		return
	}
	put, may := stamp.Put(s)
	if !may || used != many || !bytes.Equal(b[:used], put) {
		t.Fatalf("Get(% x) = %v, %d: Put has %v, %t", b, s, used, put, may)
	}
}

func TestP4_4NoOtherBytesAreGot(t *testing.T) {
	checkAgain(t, nil)
	for one := range 256 {
		checkAgain(t, []byte{byte(one)})
		for two := range 256 {
			checkAgain(t, []byte{byte(one), byte(two)})
		}
	}
	for _, n := range []uint64{8*maxN + 6, 8*maxN + 7, 8*maxN + 8, 8*maxN + 9} {
		checkAgain(t, wire.Put(n))
	}
}

func FuzzAnyBytes(f *testing.F) {
	f.Add([]byte(nil))
	f.Add([]byte{26, 122})
	f.Add([]byte{7})
	f.Add([]byte{130, 128, 128, 128, 128, 128, 7})
	f.Add([]byte{129, 255, 255, 255, 255, 255, 255, 255, 255, 127})
	f.Fuzz(func(t *testing.T, b []byte) {
		checkAgain(t, b)
	})
}

func TestR3NothingIsShared(t *testing.T) {
	in := []byte{130, 44, 9}
	before := bytes.Clone(in)
	s, _, _ := stamp.Get(in)
	if !bytes.Equal(in, before) {
		t.Errorf("what was handed in is % x now", in)
	}
	clear(in)
	if s != (api.Stamp{N: 37, Rep: 4}) {
		t.Errorf("the stamp that was got is %v now", s)
	}
	one, _ := stamp.Put(s)
	clear(append(one, "more"...))
	clear(one)
	if two, _ := stamp.Put(s); !bytes.Equal(two, []byte{130, 44}) {
		t.Errorf("Put = %v behind a change to an answer", two)
	}
}

// An answer hangs on nothing that was asked before.
func TestR5AskedAgain(t *testing.T) {
	s := api.Stamp{N: 3, Rep: 2}
	first, _ := stamp.Put(s)
	for _, other := range append(good(), bad()...) {
		stamp.Next(other, 1)
		stamp.Put(other)
	}
	if again, _ := stamp.Put(s); !bytes.Equal(again, first) {
		t.Errorf("Put = %v, asked again %v", first, again)
	}
	checkNext(t, s, 1, api.Stamp{N: 4, Rep: 1}, api.OK)
}
