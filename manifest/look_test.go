package manifest_test

import (
	"crypto/sha256"
	"math"
	"math/rand/v2"
	"testing"

	"rolodex/api"
	"rolodex/manifest"
	"rolodex/sha"
)

// toldLine goes through all lines, from the last one on.
func toldLine(m api.Manifest, id api.ID) (api.Line, bool) {
	var found api.Line
	is := false
	for i := len(m.L) - 1; i >= 0; i-- {
		if m.L[i].ID == id {
			found, is = m.L[i], true
		}
	}
	return found, is
}

// toldFind goes through all entries of the line, from the last one on.
func toldFind(m api.Manifest, id api.ID, no int) (api.Entry, bool) {
	var found api.Entry
	is := false
	l, _ := toldLine(m, id)
	for i := len(l.F) - 1; i >= 0; i-- {
		if l.F[i].No == no {
			found, is = l.F[i], true
		}
	}
	return found, is
}

// toldLike goes through all entries, from the last one on.
func toldLike(m api.Manifest, d api.Digest, n int) (api.ID, int, bool) {
	var id api.ID
	no, is := 0, false
	for i := len(m.L) - 1; i >= 0; i-- {
		for j := len(m.L[i].F) - 1; j >= 0; j-- {
			if e := m.L[i].F[j]; e.D == d && e.Len == n {
				id, no, is = m.L[i].ID, e.No, true
			}
		}
	}
	return id, no, is
}

func checkLine(t *testing.T, m api.Manifest, id api.ID) {
	t.Helper()
	want, has := toldLine(m, id)
	if l, is := manifest.Line(m, id); speltLine(l) != speltLine(want) || is != has {
		t.Errorf("Line(%s, %x) = %s, %t; want %s, %t", told(m), id, shown(speltLine(l)), is, shown(speltLine(want)), has)
	}
}

func checkFind(t *testing.T, m api.Manifest, id api.ID, no int) {
	t.Helper()
	want, has := toldFind(m, id, no)
	if e, is := manifest.Find(m, id, no); speltEntry(e) != speltEntry(want) || is != has {
		t.Errorf("Find(%s, %x, %d) = %s, %t; want %s, %t", told(m), id, no, shown(speltEntry(e)), is, shown(speltEntry(want)), has)
	}
}

func checkLike(t *testing.T, m api.Manifest, d api.Digest, n int) {
	t.Helper()
	wantID, want, has := toldLike(m, d, n)
	if id, no, is := manifest.Like(m, d, n); id != wantID || no != want || is != has {
		t.Errorf("Like(%s, %x, %d) = %x, %d, %t; want %x, %d, %t", told(m), d, n, id, no, is, wantID, want, has)
	}
}

// sample is a manifest of three lines, with a value that comes often.
func sample() api.Manifest {
	return lines(
		line(2, by(1, 0), entry(1, by(2, 1), "x"), entry(3, by(3, 1), scattered(40)), entry(4, by(3, 2), "x")),
		line(5, by(4, 0)),
		line(9, by(0, 0), entry(0, by(5, 5), "y"), entry(1, by(6, 6), "x"), entry(7, by(7, 7), scattered(24))))
}

func TestP12_2Line(t *testing.T) {
	m := sample()
	for _, x := range []struct {
		id   byte
		want int
	}{{2, 0}, {5, 1}, {9, 2}} {
		l, is := manifest.Line(m, api.ID{x.id})
		if !is || speltLine(l) != speltLine(m.L[x.want]) {
			t.Errorf("Line of %d = %v, %t; want %v", x.id, l, is, m.L[x.want])
		}
	}
	for _, id := range []api.ID{{}, {1}, {3}, {8}, {10}, {255}, {2, 1}, {0: 2, 15: 1}, {15: 2}, {1: 9}} {
		l, is := manifest.Line(m, id)
		if is || l.ID != (api.ID{}) || l.Dead != by(0, 0) || len(l.F) != 0 {
			t.Errorf("Line of %x, which is not there, = %v, %t", id, l, is)
		}
	}
	for _, none := range []api.Manifest{{}, {L: []api.Line{}}, {Base: api.Digest{7}}} {
		for _, id := range []api.ID{{}, {1}} {
			if l, is := manifest.Line(none, id); is || l.ID != (api.ID{}) || len(l.F) != 0 {
				t.Errorf("Line of %x of no lines = %v, %t", id, l, is)
			}
		}
	}
}

func TestP12_2LineOfAnIDThatStandsTwice(t *testing.T) {
	first, second := line(3, by(1, 0), entry(1, by(2, 0), "a")), line(3, by(5, 0), entry(2, by(6, 0), "b"))
	for _, m := range []api.Manifest{lines(first, second), lines(line(9, by(1, 0)), first, line(1, by(1, 0)), second), lines(first, first, second)} {
		if l, is := manifest.Line(m, api.ID{3}); !is || speltLine(l) != speltLine(first) {
			t.Errorf("Line = %v, %t; want %v", l, is, first)
		}
	}
	// Also where the first one is a line of nothing.
	if l, is := manifest.Line(lines(line(3, by(0, 0)), second), api.ID{3}); !is || l.Dead != by(0, 0) || len(l.F) != 0 {
		t.Errorf("Line = %v, %t; want the first one, that has nothing", l, is)
	}
}

func TestP12_2Find(t *testing.T) {
	m := sample()
	for _, x := range []struct {
		id   byte
		no   int
		s    api.Stamp
		v    string
		many int
	}{
		{2, 1, by(2, 1), "x", 0}, {2, 3, by(3, 1), scattered(40), 5}, {2, 4, by(3, 2), "x", 0}, {9, 0, by(5, 5), "y", 0}, {9, 1, by(6, 6), "x", 0}, {9, 7, by(7, 7), scattered(24), 3},
	} {
		e, is := manifest.Find(m, api.ID{x.id}, x.no)
		if !is || e.No != x.no || e.S != x.s || e.Len != len(x.v) || e.D != sha.Of(x.v) || len(e.B) != x.many {
			t.Errorf("Find of %d, %d = %v, %t", x.id, x.no, e, is)
		}
	}
	for _, x := range []struct {
		id api.ID
		no int
	}{
		{api.ID{2}, 0}, {api.ID{2}, 2}, {api.ID{2}, 7}, {api.ID{2}, 8}, {api.ID{2}, -1}, {api.ID{5}, 0}, {api.ID{5}, 1}, {api.ID{9}, 3}, {api.ID{9}, math.MinInt}, {api.ID{9}, math.MaxInt}, {api.ID{9}, 1 << 32},
		{api.ID{}, 0}, {api.ID{}, 1}, {api.ID{3}, 1}, {api.ID{2, 1}, 1}, {api.ID{0: 2, 15: 1}, 1}, {api.ID{10}, 7},
	} {
		if e, is := manifest.Find(m, x.id, x.no); is || speltEntry(e) != speltEntry(api.Entry{}) {
			t.Errorf("Find of %x, %d, which is not there, = %v, %t", x.id, x.no, e, is)
		}
		if e, is := manifest.Find(api.Manifest{}, x.id, x.no); is || speltEntry(e) != speltEntry(api.Entry{}) {
			t.Errorf("Find of %x, %d of no lines = %v, %t", x.id, x.no, e, is)
		}
	}
}

func TestP12_2FindOfWhatStandsTwice(t *testing.T) {
	a, b, c := entry(1, by(2, 0), "a"), entry(1, by(3, 0), scattered(30)), entry(2, by(4, 0), "c")
	find := func(m api.Manifest, no int, want api.Entry, has bool) {
		t.Helper()
		if e, is := manifest.Find(m, api.ID{1}, no); is != has || speltEntry(e) != speltEntry(want) {
			t.Errorf("Find(%s, %d) = %v, %t; want %v, %t", told(m), no, e, is, want, has)
		}
	}
	find(one(a, b), 1, a, true)
	find(one(b, a), 1, b, true)
	find(one(c, b, a, b), 1, b, true)
	// Of an ID that stands twice the first line alone is looked at.
	twice := lines(line(1, by(0, 0), a), line(1, by(0, 0), b, c))
	find(twice, 1, a, true)
	find(twice, 2, api.Entry{}, false)
	find(lines(line(1, by(0, 0)), line(1, by(0, 0), a)), 1, api.Entry{}, false)
	find(lines(line(0, by(1, 0), c), line(1, by(0, 0), a)), 2, api.Entry{}, false)
	// Also numbers that may not be are found.
	odd := entry(-7, by(2, 0), "odd")
	find(one(a, odd), -7, odd, true)
}

func TestP12_2Like(t *testing.T) {
	m := sample()
	for _, x := range []struct {
		v  string
		id byte
		no int
	}{
		{scattered(40), 2, 3}, // one entry has it
		{"y", 9, 0},
		{scattered(24), 9, 7},
		{"x", 2, 1}, // several, in one line and in two
	} {
		if id, no, is := manifest.Like(m, sha.Of(x.v), len(x.v)); id != (api.ID{x.id}) || no != x.no || !is {
			t.Errorf("Like of %q = %x, %d, %t; want %d, %d", x.v, id, no, is, x.id, x.no)
		}
	}
	short := sha.Of("x")
	nearly := short
	nearly[31]++
	for _, x := range []struct {
		d api.Digest
		n int
	}{
		{short, 0}, {short, 2}, {short, -1}, {short, math.MaxInt}, {short, math.MinInt}, {short, 1<<32 + 1}, {short, 40},
		{sha.Of(scattered(40)), 1}, {sha.Of(scattered(40)), 24}, {sha.Of("z"), 1}, {sha.Of(""), 0}, {api.Digest{}, 0}, {api.Digest{}, 1}, {nearly, 1},
	} {
		if id, no, is := manifest.Like(m, x.d, x.n); is || id != (api.ID{}) || no != 0 {
			t.Errorf("Like of %x and %d, which none has, = %x, %d, %t", x.d, x.n, id, no, is)
		}
		for _, none := range []api.Manifest{{}, {L: []api.Line{}}, lines(line(1, by(1, 0)))} {
			if id, no, is := manifest.Like(none, x.d, x.n); is || id != (api.ID{}) || no != 0 {
				t.Errorf("Like of %x and %d, of no entries, = %x, %d, %t", x.d, x.n, id, no, is)
			}
		}
	}
}

// The same digest stands with other Lens: digests alone are not enough, and Lens neither.
func TestP12_2LikeOfAnotherLen(t *testing.T) {
	sameAt := func(no, length int) api.Entry {
		return api.Entry{No: no, S: by(1, 0), Len: length, D: api.Digest{5}}
	}
	m := lines(
		line(1, by(0, 0), sameAt(0, 3), entry(1, by(1, 0), "abcd"), sameAt(2, 4), sameAt(3, 3)),
		line(2, by(0, 0), sameAt(0, 4), sameAt(1, 5)))
	for _, x := range []struct {
		n    int
		id   api.ID
		no   int
		want bool
	}{{3, api.ID{1}, 0, true}, {4, api.ID{1}, 2, true}, {5, api.ID{2}, 1, true}, {6, api.ID{}, 0, false}, {0, api.ID{}, 0, false}} {
		if id, no, is := manifest.Like(m, api.Digest{5}, x.n); id != x.id || no != x.no || is != x.want {
			t.Errorf("Like of %d = %x, %d, %t; want %x, %d, %t", x.n, id, no, is, x.id, x.no, x.want)
		}
	}
}

// The first one is the one that stands first, whatever the names and the numbers are.
func TestP12_2LikeOfTheFirstOne(t *testing.T) {
	a, b := entry(6, by(1, 0), "a"), entry(2, by(9, 0), "a")
	d := sha256.Sum256([]byte("a"))
	for _, x := range []struct {
		m  api.Manifest
		id byte
		no int
	}{
		{one(a, b), 1, 6}, {one(b, a), 1, 2}, {one(a, a), 1, 6},
		{lines(line(9, by(0, 0), a), line(1, by(0, 0), b)), 9, 6}, {lines(line(9, by(0, 0), b), line(1, by(0, 0), a)), 9, 2},
		{lines(line(9, by(1, 0)), line(4, by(0, 0), entry(0, by(1, 0), "b"), b), line(1, by(0, 0), a)), 4, 2},
		{lines(line(3, by(0, 0), a), line(3, by(0, 0), b)), 3, 6},
	} {
		if id, no, is := manifest.Like(x.m, d, 1); id != (api.ID{x.id}) || no != x.no || !is {
			t.Errorf("Like(%s) = %x, %d, %t; want %d, %d", told(x.m), id, no, is, x.id, x.no)
		}
	}
}

func TestP12_2LikeWhereItMayNotBe(t *testing.T) {
	d := api.Digest{3}
	odd := api.Entry{No: -9, Len: math.MinInt, D: d}
	m := lines(line(9, by(0, 0), api.Entry{}, odd), line(1, by(-4, 99), api.Entry{No: 1 << 50, Len: math.MaxInt, D: d}), api.Line{})
	for _, x := range []struct {
		d  api.Digest
		n  int
		id byte
		no int
	}{{d, math.MinInt, 9, -9}, {d, math.MaxInt, 1, 1 << 50}, {api.Digest{}, 0, 9, 0}} {
		if id, no, is := manifest.Like(m, x.d, x.n); id != (api.ID{x.id}) || no != x.no || !is {
			t.Errorf("Like of %d = %x, %d, %t", x.n, id, no, is)
		}
	}
	if id, no, is := manifest.Like(m, d, 0); is || id != (api.ID{}) || no != 0 {
		t.Errorf("Like of what none has = %x, %d, %t", id, no, is)
	}
}

// Of each entry all that is asked is as the test's own words have it, in what may be and what may not.
func TestP12_2OfAllThatIsThere(t *testing.T) {
	for _, m := range sampleManifests() {
		for _, l := range m.L[:min(len(m.L), 20)] {
			next := l.ID
			next[15]++
			checkLine(t, m, l.ID)
			checkLine(t, m, next)
			for _, e := range l.F[:min(len(l.F), 20)] {
				checkFind(t, m, l.ID, e.No)
				checkFind(t, m, l.ID, e.No+1)
				checkFind(t, m, next, e.No)
				checkLike(t, m, e.D, e.Len)
				checkLike(t, m, e.D, e.Len+1)
			}
		}
	}
}

func TestP12_2OfAnything(t *testing.T) {
	dice := rand.New(rand.NewPCG(12, 2))
	for range 2000 {
		m := toldOf(anyBook(dice))
		for range dice.IntN(4) {
			change(dice, &m)
		}
		for range 20 {
			id, no, v := api.ID{byte(dice.IntN(13))}, dice.IntN(10)-1, anyValue(dice)
			checkLine(t, m, id)
			checkFind(t, m, id, no)
			checkLike(t, m, sha256.Sum256([]byte(v)), len(v))
		}
	}
}
