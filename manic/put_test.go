package manic_test

import (
	"fmt"
	"math"
	"slices"
	"strings"
	"testing"

	"rolodex/api"
	"rolodex/manic"
	"rolodex/manifest"
)

func checkPut(t *testing.T, what string, m api.Manifest, want string) {
	t.Helper()
	if p, is := manic.Put(m); string(p) != want || !is {
		t.Errorf("%s: Put(%s) = %s, %t; want %s", what, told(m), shown(string(p)), is, shown(want))
	}
}

// known is what is known of a book that may be.
func known(t *testing.T, b api.Book) api.Manifest {
	t.Helper()
	m, is := manifest.Of(b)
	if !is {
		t.Fatalf("nothing is known of %s", shown(fmt.Sprint(b)))
	}
	return m
}

const noRecords = "\x6e\x34\x0b\x9c\xff\xb3\x7a\x98\x9c\xa5\x44\xe6\xbb\x78\x0a\x2c\x78\x90\x1d\x3f\xb3\x37\x38\x76\x85\x11\xa3\x06\x17\xaf\xa0\x1d"

func TestP13_1PutOfNoRecords(t *testing.T) {
	want := "\x01\x21" + noRecords + "\x00"
	for _, b := range []api.Book{{}, of([]api.Rec{}...)} {
		p, is := manic.Put(known(t, b))
		if len(p) != 39 || string(p[:35]) != want || string(p) != packed(1, noRecords+"\x00") || !is {
			t.Errorf("Put of a book without records is %q, %t", p, is)
		}
	}
}

// Each part is written out here, so that nothing hangs on how the tests lay the other manifests.
func TestP13_1PutExamples(t *testing.T) {
	base, digest, strong := strings.Repeat("B", 32), strings.Repeat("D", 32), strings.Repeat("S", 32)
	d, s := api.Digest([]byte(digest)), api.Digest([]byte(strong))
	of := func(l ...api.Line) api.Manifest { return api.Manifest{Base: api.Digest([]byte(base)), L: l} }
	name := string([]byte{7}) + strings.Repeat("\x00", 15)
	block := func(weak uint32) api.Sig { return api.Sig{Weak: weak, Strong: s} }
	for _, x := range []struct {
		m    api.Manifest
		want string
	}{
		{api.Manifest{}, strings.Repeat("\x00", 33)},
		{of(), base + "\x00"},
		{of(line(7, by(2, 3))), base + "\x01" + name + "\x13\x00"},
		{of(line(7, by(maxN, 7))), base + "\x01" + name + "\x82\x80\x80\x80\x80\x80\x07\x00"},
		{of(api.Line{ID: api.ID{0: 1, 7: 2, 15: 3}, Dead: by(16, 0)}), base + "\x01\x01\x00\x00\x00\x00\x00\x00\x02\x00\x00\x00\x00\x00\x00\x00\x03\x81\x00\x00"},
		{of(line(7, by(0, 0), api.Entry{No: 2, S: by(1, 1), Len: 1, D: d})), base + "\x01" + name + "\x00\x01\x02\x09\x01" + digest},
		{
			of(line(7, by(2, 3), api.Entry{S: by(3, 4), D: d}, api.Entry{No: 7, S: by(37, 4), Len: 23, D: d})),
			base + "\x01" + name + "\x13\x02\x00\x1c\x00" + digest + "\x07\x82\x2c\x17" + digest,
		},
		{
			of(line(7, by(0, 0), api.Entry{No: 1, S: by(1, 0), Len: 31, D: d, B: []api.Sig{block(1), block(0x01020304), block(math.MaxUint32)}})),
			base + "\x01" + name + "\x00\x01\x01\x08\x1f" + digest + "\x00\x00\x00\x01" + strong + "\x01\x02\x03\x04" + strong + "\xff\xff\xff\xff" + strong,
		},
		{
			of(line(7, by(0, 0), api.Entry{No: 1, S: by(1, 0), Len: 200, D: d, B: slices.Repeat([]api.Sig{block(256)}, 25)})),
			base + "\x01" + name + "\x00\x01\x01\x08\x81\x48" + digest + strings.Repeat("\x00\x00\x01\x00"+strong, 25),
		},
	} {
		checkPut(t, "an example", x.m, packed(1, x.want))
		checkGot(t, "an example", packed(1, x.want), x.m)
	}
}

func TestP13_1Put(t *testing.T) {
	for i, m := range append(goodManifests(), ofEachLen()...) {
		checkPut(t, fmt.Sprint("manifest ", i), m, laid(m))
	}
}

func TestP13_1PutOfBooks(t *testing.T) {
	one := of(live(7, at(2, 1, 1, "a value of thirty bytes or so..")))
	for _, x := range []struct {
		what string
		b    api.Book
		many int
	}{
		{"one record", one, 201},
		{"one record, of eight fields", of(live(1, fields(8)...)), 7 + 51 + 8*35 + 36*(3+4+5+6)},
		{"ten records", span(10), 7 + 33 + 10*(18+2*35) + 10 + 36*(3+4+5+6+7+9+10)},
		{"ten records, as wide as there may be", wide(), 8 + 33 + 10*(24+8*(42+36*25))},
		{"a dead record without fields", of(dead(7, 2, 3)), 6 + 33 + 18},
		{"ten dead records without fields", of(dead(0, 1, 0), dead(1, 1, 0), dead(2, 1, 0), dead(3, 1, 0), dead(4, 1, 0), dead(5, 1, 0), dead(6, 1, 0), dead(7, 1, 0), dead(8, 1, 0), dead(9, 1, 0)), 7 + 33 + 180},
		{"a record that was dead", of(dead(7, 2, 3, at(0, 2, 4, ""))), 6 + 33 + 18 + 35},
	} {
		m := known(t, x.b)
		checkPut(t, x.what, m, laid(m))
		if p, _ := manic.Put(m); len(p) != x.many {
			t.Errorf("%s: Put has %d bytes; want %d", x.what, len(p), x.many)
		}
	}
	for _, b := range goodBooks() {
		m := known(t, b)
		checkPut(t, "a book", m, laid(m))
	}
}

// Of a Len of 24 and more there are blocks, and from 128 on Len has two bytes.
func TestP13_1PutOfValues(t *testing.T) {
	for _, x := range []struct{ length, blocks, lenBytes int }{
		{0, 0, 1}, {1, 0, 1}, {7, 0, 1}, {8, 0, 1}, {16, 0, 1}, {23, 0, 1}, {24, 3, 1}, {25, 3, 1}, {31, 3, 1}, {32, 4, 1}, {127, 15, 1}, {128, 16, 2}, {199, 24, 2}, {200, 25, 2},
	} {
		m := known(t, of(live(9, at(3, 1, 0, scattered(x.length)))))
		want := laid(m)
		checkPut(t, fmt.Sprintf("%d bytes", x.length), m, want)
		if _, inner, _, _ := toldOpen(want); len(inner) != 33+18+34+x.lenBytes+36*x.blocks {
			t.Errorf("%d bytes: all has %d bytes", x.length, len(inner))
		}
	}
}

// Stamps' numbers of 127 and 128, 16383 and 16384, and so on: wire's Put of them has a byte more.
func TestP13_1PutOfStamps(t *testing.T) {
	for _, x := range []struct {
		s    api.Stamp
		many int
	}{
		{by(1, 0), 1}, {by(1, 7), 1}, {by(15, 7), 1}, {by(16, 0), 2}, {by(2047, 7), 2}, {by(2048, 0), 3}, {by(1<<18-1, 7), 3}, {by(1<<18, 0), 4}, {by(1<<25, 0), 5}, {by(1<<32, 0), 6}, {by(1<<39, 0), 7}, {by(maxN, 0), 7}, {by(maxN, 7), 7},
	} {
		asDead, asS := lines(line(1, x.s)), one(entry(0, x.s, "a"))
		checkPut(t, fmt.Sprint("dead since ", x.s), asDead, laid(asDead))
		checkPut(t, fmt.Sprint("an S of ", x.s), asS, laid(asS))
		if p, _ := manic.Put(asDead); len(p) != 6+33+17+x.many {
			t.Errorf("dead since %v: Put has %d bytes", x.s, len(p))
		}
		if p, _ := manic.Put(asS); len(p) != 6+33+18+34+x.many {
			t.Errorf("an S of %v: Put has %d bytes", x.s, len(p))
		}
	}
}

func checkNotPut(t *testing.T, why string, m api.Manifest) {
	t.Helper()
	if toldMay(m) {
		t.Fatalf("%s: by the document's words %s may be", why, told(m))
	}
	if p, is := manic.Put(m); len(p) != 0 || is {
		t.Errorf("%s: Put(%s) = %s, %t; want nothing and false", why, told(m), shown(string(p)), is)
	}
}

func TestP13_1PutOfWhatMayNotBe(t *testing.T) {
	for _, x := range append(badManifests(), untold()...) {
		checkNotPut(t, x.why, x.m)
	}
}

// A fault in any line and entry of a manifest is enough, whatever stands around it.
func TestP13_1PutOfOneFault(t *testing.T) {
	whole := toldOf(wide())
	checkPut(t, "as wide as there may be", whole, laid(whole))
	for i := range maxRecs {
		for j := range maxNo {
			for why, change := range map[string]func(l *api.Line, e *api.Entry){
				"a Len of -1":                        func(_ *api.Line, e *api.Entry) { e.Len = -1 },
				"a Len of 201":                       func(_ *api.Line, e *api.Entry) { e.Len = 201 },
				"a Len of 199":                       func(_ *api.Line, e *api.Entry) { e.Len = 199 },
				"a block too few":                    func(_ *api.Line, e *api.Entry) { e.B = e.B[1:] },
				"a block too many":                   func(_ *api.Line, e *api.Entry) { e.B = append(e.B, e.B[0]) },
				"a zero S":                           func(_ *api.Line, e *api.Entry) { e.S = by(0, 0) },
				"an S that may not be":               func(_ *api.Line, e *api.Entry) { e.S.N++ },
				"an S that is not later than Dead":   func(l *api.Line, e *api.Entry) { e.S = l.Dead },
				"a Dead that may not be":             func(l *api.Line, _ *api.Entry) { l.Dead.Rep = 8 },
				"a number of the one behind":         func(_ *api.Line, e *api.Entry) { e.No++ },
				"a number that falls":                func(_ *api.Line, e *api.Entry) { e.No -= 2 },
				"a name of all ones":                 func(l *api.Line, _ *api.Entry) { l.ID = api.ID(slices.Repeat([]byte{255}, 16)) },
				"a name that falls":                  func(l *api.Line, _ *api.Entry) { l.ID = api.ID{} },
				"no entries, and a zero Dead":        func(l *api.Line, _ *api.Entry) { l.F, l.Dead = nil, by(0, 0) },
				"an entry more":                      func(l *api.Line, _ *api.Entry) { l.F = append(l.F, entry(8, by(maxN, 7), "a")) },
				"a number far above":                 func(_ *api.Line, e *api.Entry) { e.No = math.MaxInt },
				"a number 256 above":                 func(_ *api.Line, e *api.Entry) { e.No += 256 },
				"a number 256 below":                 func(_ *api.Line, e *api.Entry) { e.No -= 256 },
				"a Len that wraps around to the own": func(_ *api.Line, e *api.Entry) { e.Len += 1 << 32 },
			} {
				m := clone(whole)
				change(&m.L[i], &m.L[i].F[j])
				if !toldMay(m) {
					checkNotPut(t, fmt.Sprintf("%s in %d, %d", why, i, j), m)
				}
			}
		}
	}
}
