package manic_test

import (
	"bytes"
	"fmt"
	"math/rand/v2"
	"slices"
	"strings"
	"testing"

	"rolodex/api"
	"rolodex/manic"
	"rolodex/manifest"
	"rolodex/section"
)

func checkGot(t *testing.T, what, b string, want api.Manifest) {
	t.Helper()
	got, err := manic.Get([]byte(b))
	if body(got) != body(want) || err != api.OK {
		t.Errorf("%s: Get(%s) = %s, %d; want %s", what, shown(b), told(got), err, told(want))
	}
}

func checkNot(t *testing.T, what, b string, want api.Errno) {
	t.Helper()
	if got, err := manic.Get([]byte(b)); got.Base != (api.Digest{}) || len(got.L) != 0 || err != want {
		t.Errorf("%s: Get(%s) = %s, %d; want a zero one, and %d", what, shown(b), told(got), err, want)
	}
}

// checkGet holds what is got against the document's words, and section's own error, if it has one; it tells the error.
func checkGet(t *testing.T, b string) api.Errno {
	t.Helper()
	want, wantErr := toldGet(b)
	if _, _, _, err := section.Open([]byte(b)); err != api.OK && err != wantErr {
		t.Fatalf("Open(%s) tells %d, not %d", shown(b), err, wantErr)
	}
	got, err := manic.Get([]byte(b))
	if got.Base != want.Base || body(got) != body(want) || err != wantErr {
		t.Fatalf("Get(%s) = %s, %d; want %s, %d", shown(b), told(got), err, told(want), wantErr)
	}
	if err != api.OK {
		return err
	}
	if p, is := manic.Put(got); !is || string(p) != b || !manifest.May(got) {
		t.Fatalf("Get(%s) = %s, and Put of that is %s, %t", shown(b), told(got), shown(string(p)), is)
	}
	return err
}

func TestP13_2Get(t *testing.T) {
	for i, m := range append(goodManifests(), ofEachLen()...) {
		checkGot(t, fmt.Sprint("manifest ", i), laid(m), m)
	}
}

func TestP13_2GetOfWhatMayNotBe(t *testing.T) {
	for _, x := range badManifests() {
		checkNot(t, x.why, laid(x.m), x.err)
		if _, err := toldGet(laid(x.m)); err != x.err {
			t.Errorf("%s: by the document's words it is %d", x.why, err)
		}
	}
}

// The bytes that a slice has room for, behind its length, are not its own.
func TestP13_2GetOfABeginning(t *testing.T) {
	checkNot(t, "nothing", "", api.ErrForm)
	if got, err := manic.Get(nil); got.Base != (api.Digest{}) || len(got.L) != 0 || err != api.ErrForm {
		t.Errorf("Get(nil) = %s, %d", told(got), err)
	}
	for _, m := range few() {
		p := []byte(laid(m))
		for many := range len(p) {
			_, _, _, want := section.Open(p[:many])
			if got, err := manic.Get(p[:many]); got.Base != (api.Digest{}) || len(got.L) != 0 || err != want || err != api.ErrForm {
				t.Errorf("Get of %d bytes of %s = %s, %d; want %d", many, told(m), told(got), err, want)
			}
		}
	}
}

func TestP13_2GetOfMoreBytes(t *testing.T) {
	for _, m := range few() {
		p := laid(m)
		for _, more := range []string{"\x00", "\x01", "\x80", "\xff", packed(1, ""), packed(2, ""), p, "some more bytes"} {
			checkNot(t, "more behind", p+more, api.ErrForm)
		}
		checkGet(t, "\x01"+p)
		checkGet(t, "\x00"+p)
	}
	// A fault of the section itself is told, whatever stands behind.
	p := []byte(laid(one(entry(0, by(1, 0), "a"))) + "x")
	p[10]++
	checkNot(t, "a byte changed, and one more behind", string(p), api.ErrCheck)
}

// otherBytes is by what a byte is changed: by all there is, where there is not too much to change.
func otherBytes(many int) []byte {
	if many > 60 {
		return []byte{1, 2, 8, 128, 255}
	}
	var all []byte
	for d := range 255 {
		all = append(all, byte(d+1))
	}
	return all
}

// The check finds each byte that is changed, but for those that tell of what kind and how long the section is: these may be of no section.
func TestP13_2GetOfBytesWithOneChanged(t *testing.T) {
	for _, m := range few() {
		p := []byte(laid(m))
		for i, was := range p {
			for _, d := range otherBytes(len(p)) {
				p[i] = was + d
				if err := checkGet(t, string(p)); err != api.ErrCheck && (err != api.ErrForm || i > 2) {
					t.Errorf("%s, its byte %d changed to %d: %d", told(m), i, p[i], err)
				}
			}
			p[i] = was
		}
	}
}

func TestP13_2GetOfOtherKinds(t *testing.T) {
	for kind := range byte(11) {
		if kind == 1 {
			continue
		}
		what := fmt.Sprint("kind ", kind)
		checkNot(t, what+", no bytes", packed(kind, ""), api.ErrForm)
		for _, m := range few() {
			checkNot(t, what, packed(kind, body(m)), api.ErrForm)
			checkNot(t, what+", and a byte behind", packed(kind, body(m))+"x", api.ErrForm)
		}
		for _, x := range badManifests() {
			checkNot(t, what+", and "+x.why, packed(kind, body(x.m)), api.ErrForm)
		}
	}
	checkNot(t, "no bytes", packed(1, ""), api.ErrForm)
	for _, p := range []string{packed(2, body(lines())), laid(lines(api.Line{})), laid(lines(rising(11)...))} {
		wrong := []byte(p)
		wrong[len(wrong)-1]++
		checkNot(t, "a wrong check, and another fault", string(wrong), api.ErrCheck)
	}
}

// otherParts hands on bytes of which each part in turn has a byte too few, or one too many, at its beginning or its end. The byte more is one that no number begins by.
func otherParts(m api.Manifest, try func(what, other string)) {
	all := parts(m)
	for i, part := range all {
		with := func(what, by string) {
			try(fmt.Sprintf("the part %d %s", i, what), strings.Join(slices.Concat(all[:i], []string{by}, all[i+1:]), ""))
		}
		with("without its first byte", part[1:])
		with("without its last byte", part[:len(part)-1])
		with("with a byte ahead", "\x80"+part)
		with("with a byte behind", part+"\x80")
		with("left out", "")
		with("twice", part+part)
	}
}

func TestP13_2GetOfPartsOfOtherLengths(t *testing.T) {
	for _, m := range []api.Manifest{lines(), lines(line(1, by(2, 0))), one(entry(3, by(4, 0), "a")), one(entry(3, by(4, 0), scattered(40))), lines(line(9, by(1, 1), entry(3, by(4, 0), scattered(30)), entry(7, by(5, 5), "abc")))} {
		otherParts(m, func(what, other string) {
			checkNot(t, told(m)+", "+what, packed(1, other), api.ErrForm)
		})
		whole := body(m)
		for _, more := range []string{"\x00", "\x01", "\xff", whole} {
			checkNot(t, "more behind", packed(1, whole+more), api.ErrForm)
		}
		for many := range len(whole) {
			checkNot(t, "a beginning", packed(1, whole[:many]), api.ErrForm)
		}
	}
	// Where there is more, what is there instead may be a part by chance: it is what the document's words tell.
	many := map[api.Errno]int{}
	for _, m := range few() {
		otherParts(m, func(_, other string) { many[checkGet(t, packed(1, other))]++ })
	}
	if many[api.ErrForm] < 1000 || many[api.ErrForm] < 9*many[api.ErrArg] || many[api.OK] > many[api.ErrArg] {
		t.Errorf("the errors came so often: %v", many)
	}
}

// No number has more groups than tell it, and none is taken as what it wraps around to.
func TestP13_2GetOfOtherNumbers(t *testing.T) {
	for _, m := range []api.Manifest{lines(), lines(line(1, by(2, 0))), lines(line(1, by(2, 0), sized(0, 24, 3), sized(3, 1, 0))), lines(line(1, by(0, 0), entry(0, by(77, 0), "a"), sized(7, 150, 18)))} {
		if len(m.L) > 0 && m.L[0].Dead != by(0, 0) {
			for j := range m.L[0].F {
				m.L[0].F[j].S = by(3, 0)
			}
		}
		all := parts(m)
		checkGot(t, "as it is", packed(1, strings.Join(all, "")), m)
		for i := 1; i < len(all); i++ {
			if !isNumber(m, i) {
				continue
			}
			for _, other := range otherNumbers(all[i]) {
				checkNot(t, fmt.Sprintf("the part %d is %q", i, other), packed(1, strings.Join(slices.Concat(all[:i], []string{other}, all[i+1:]), "")), api.ErrForm)
			}
		}
	}
}

// otherNumbers are such as would wrap around to n, or have other bytes than wire's Put of it.
func otherNumbers(n string) []string {
	last := string([]byte{n[len(n)-1]})
	over := "\x81" + strings.Repeat("\x80", 9)
	return []string{
		"\x80" + n, "\x80\x80" + n, strings.Repeat("\x80", 9) + n, strings.Repeat("\x80", 100) + n,
		over[:10] + last, "\x82" + over[1:9] + last, strings.Repeat("\xff", 8) + "\x80" + last,
		strings.Repeat("\xff", 9) + "\x7f", "\x81" + strings.Repeat("\xff", 8) + "\x7f", strings.Repeat("\xff", 1000), "\xff",
	}
}

// isNumber tells whether the i-th part of a manifest's bytes is a number.
func isNumber(m api.Manifest, i int) bool {
	kinds := []bool{false, true}
	for _, l := range m.L {
		kinds = append(kinds, false, true, true)
		for _, e := range l.F {
			kinds = append(kinds, false, true, true, false)
			kinds = append(kinds, make([]bool, 2*len(e.B))...)
		}
	}
	return kinds[i]
}

// What is told to be there too often: lines, entries, and a value's bytes; and fewer than there are.
func TestP13_2GetOfOtherCounts(t *testing.T) {
	base, id, digest := strings.Repeat("B", 32), strings.Repeat("I", 16), strings.Repeat("D", 32)
	for _, n := range []uint64{2, 3, 9, 10, 11, 16, 127, 128, 256, 257, 1<<16 + 1, 1 << 31, 1 << 32, 1<<32 + 1, 1 << 62, 1 << 63, 1<<63 + 1, 1<<64 - 1, 1<<64 - 2} {
		checkNot(t, "lines", packed(1, base+number(n)), api.ErrForm)
		checkNot(t, "lines", packed(1, base+number(n)+id+"\x08\x00"), api.ErrForm)
		checkNot(t, "lines", packed(1, base+number(n)+id+"\x00\x01\x00\x08\x01"+digest), api.ErrForm)
		checkNot(t, "entries", packed(1, base+"\x01"+id+"\x08"+number(n)), api.ErrForm)
		checkNot(t, "entries", packed(1, base+"\x01"+id+"\x08"+number(n)+"\x00\x10\x01"+digest), api.ErrForm)
		if n > 200 {
			checkNot(t, "a Len", packed(1, base+"\x01"+id+"\x00\x01\x00\x08"+number(n)+digest), api.ErrForm)
			checkNot(t, "a Len", packed(1, base+"\x01"+id+"\x00\x01\x00\x08"+number(n)+digest+strings.Repeat("k", 25*36)), api.ErrForm)
		}
	}
	checkNot(t, "no lines, and one", packed(1, base+"\x00"+id+"\x08\x00"), api.ErrForm)
	checkNot(t, "no entries, and one", packed(1, base+"\x01"+id+"\x08\x00\x00\x10\x01"+digest), api.ErrForm)
	checkNot(t, "no entry, a zero Dead, and an entry", packed(1, base+"\x01"+id+"\x00\x00\x00\x10\x01"+digest), api.ErrForm)
	for lines := range 20 {
		want := api.OK
		if lines > maxRecs {
			want = api.ErrForm
		}
		checkEither(t, fmt.Sprintf("%d lines", lines), laid(api.Manifest{L: rising(lines)}), want)
		want = api.ErrForm
		if 0 < lines && lines <= maxNo {
			want = api.OK
		} else if lines == 0 {
			want = api.ErrArg
		}
		checkEither(t, fmt.Sprintf("%d entries", lines), laid(one(numbered(lines)...)), want)
	}
	for length := range 300 {
		for blocks := range 40 {
			want := api.ErrForm
			if length <= maxVal && blocks == len(toldBlocks(strings.Repeat("a", length))) {
				want = api.OK
			}
			checkEither(t, fmt.Sprintf("a Len of %d, %d blocks", length, blocks), laid(one(sized(0, length, blocks))), want)
		}
	}
}

func checkEither(t *testing.T, what, b string, want api.Errno) {
	t.Helper()
	if err := checkGet(t, b); err != want {
		t.Errorf("%s: Get tells %d; want %d", what, err, want)
	}
}

// Bytes of an entry's number, S and Len, and of Dead: each one there is.
func TestP13_2GetOfEachByte(t *testing.T) {
	all := body(lines(line(1, by(2, 0), entry(0, by(3, 0), "a"))))
	const dead, no, s, length = 49, 51, 52, 53
	told := func(at, to int) api.Errno {
		p := []byte(all)
		p[at] = byte(to)
		return checkGet(t, packed(1, string(p)))
	}
	for to := range 256 {
		if err := told(no, to); err != pick(to < 8, api.OK, api.ErrArg) {
			t.Errorf("the number %d: %d", to, err)
		}
		if err := told(s, to); err != pick(to > 127 || 0 < to && to < 8, api.ErrForm, pick(to > 16, api.OK, api.ErrArg)) {
			t.Errorf("an S of the byte %d: %d", to, err)
		}
		if err := told(dead, to); err != pick(to > 127 || 0 < to && to < 8, api.ErrForm, pick(to < 24, api.OK, api.ErrArg)) {
			t.Errorf("a Dead of the byte %d: %d", to, err)
		}
		if err := told(length, to); err != pick(to < 24, api.OK, api.ErrForm) {
			t.Errorf("a Len of the byte %d: %d", to, err)
		}
	}
}

func pick(is bool, a, b api.Errno) api.Errno {
	if is {
		return a
	}
	return b
}

// A stamp's number of 56 bits and more wraps around, where it is made an int too soon.
func TestP13_2GetOfStampsThatMayNotBe(t *testing.T) {
	base, id, digest := strings.Repeat("B", 32), strings.Repeat("I", 16), strings.Repeat("D", 32)
	for _, n := range []uint64{1, 2, 7, 8 * (maxN + 1), 1 << 62, 1 << 63, 1<<63 + 8, 1<<64 - 8, 1<<64 - 1} {
		checkNot(t, "Dead", packed(1, base+"\x01"+id+number(n)+"\x00"), api.ErrForm)
		checkNot(t, "Dead, and an entry", packed(1, base+"\x01"+id+number(n)+"\x01\x00"+number(8*maxN+7)+"\x01"+digest), api.ErrForm)
		checkNot(t, "an S", packed(1, base+"\x01"+id+"\x00\x01\x00"+number(n)+"\x01"+digest), api.ErrForm)
	}
	checkNot(t, "an S, zero", packed(1, base+"\x01"+id+"\x00\x01\x00\x00\x01"+digest), api.ErrArg)
	checkNot(t, "a Dead, zero, without entries", packed(1, base+"\x01"+id+"\x00\x00"), api.ErrArg)
}

// That the bytes are of another form is told ahead of what else may not be, wherever it stands.
func TestP13_2FormAheadOfArg(t *testing.T) {
	for _, x := range badManifests() {
		if x.err != api.ErrArg {
			continue
		}
		whole := body(x.m)
		for many := range len(whole) {
			checkNot(t, "a beginning of "+x.why, packed(1, whole[:many]), api.ErrForm)
		}
		checkNot(t, x.why+", and a byte more", packed(1, whole+"\x00"), api.ErrForm)
		checkNot(t, x.why+", and bytes behind", laid(x.m)+"\x00", api.ErrForm)
		checkNot(t, x.why+", without its last byte", laid(x.m)[:len(laid(x.m))-1], api.ErrForm)
	}
}

func TestP13_3WhatIsPutIsGot(t *testing.T) {
	for _, b := range goodBooks() {
		checkTwoWays(t, known(t, b))
	}
	for _, m := range append(goodManifests(), ofEachLen()...) {
		checkTwoWays(t, m)
	}
	dice := rand.New(rand.NewPCG(13, 3))
	for range 2000 {
		checkTwoWays(t, known(t, anyBook(dice)))
	}
}

func checkTwoWays(t *testing.T, m api.Manifest) {
	t.Helper()
	p, is := manic.Put(m)
	got, err := manic.Get(p)
	if !is || err != api.OK || !manifest.Same(got, m) || body(got) != body(m) || !manifest.May(got) {
		t.Errorf("%s is put as %s, %t, and that is got as %s, %d", told(m), shown(string(p)), is, told(got), err)
	}
	if again, is := manic.Put(got); !is || !bytes.Equal(again, p) {
		t.Errorf("%s is got, and put as %s, %t", told(m), shown(string(again)), is)
	}
}

// Two manifests have the same bytes just if they are the same.
func TestP13_3OtherManifestsHaveOtherBytes(t *testing.T) {
	seen := map[string]api.Manifest{}
	for _, m := range slices.Concat(goodManifests(), ofEachLen(), []api.Manifest{known(t, span(2)), known(t, span(3))}) {
		p, _ := manic.Put(m)
		if other, is := seen[string(p)]; is && !manifest.Same(other, m) {
			t.Errorf("%s and %s have the same bytes", told(other), told(m))
		}
		seen[string(p)] = m
	}
}

// What is inside the section is changed, and packed again, so that the check is right.
func TestP13_3OfChangedBodies(t *testing.T) {
	for _, m := range few() {
		whole := []byte(body(m))
		for i, was := range whole {
			for _, d := range []byte{1, 2, 7, 8, 16, 128, 255} {
				whole[i] = was + d
				checkGet(t, packed(1, string(whole)))
			}
			whole[i] = was
			checkGet(t, packed(1, string(slices.Delete(slices.Clone(whole), i, i+1))))
			checkGet(t, packed(1, string(slices.Insert(slices.Clone(whole), i, was))))
		}
	}
}

// change makes one part of a manifest another one, which may be or not.
func change(dice *rand.Rand, m *api.Manifest) {
	if len(m.L) == 0 {
		m.L = rising(dice.IntN(13))
		return
	}
	l := &m.L[dice.IntN(len(m.L))]
	switch dice.IntN(6) {
	case 0:
		m.L = append(m.L, *l)
	case 1:
		l.ID = api.ID{byte(dice.IntN(12))}
	case 2:
		l.Dead = by(dice.IntN(6), dice.IntN(maxRep))
	case 3:
		l.F = nil
	default:
		if len(l.F) > 0 {
			changeEntry(dice, &l.F[dice.IntN(len(l.F))])
		}
	}
}

func changeEntry(dice *rand.Rand, e *api.Entry) {
	switch dice.IntN(5) {
	case 0:
		e.No = dice.IntN(10)
	case 1:
		e.S = by(dice.IntN(8), dice.IntN(maxRep))
	case 2:
		e.Len = dice.IntN(210)
	case 3:
		e.B = sized(0, 0, dice.IntN(27)).B
	case 4:
		*e = sized(dice.IntN(9), dice.IntN(210), dice.IntN(27))
	}
}

// Manifests that may be, and not: got, or the error that the document's words tell.
func TestP13_2GetOfAnyLaidManifest(t *testing.T) {
	dice := rand.New(rand.NewPCG(13, 26))
	many := map[api.Errno]int{}
	for range 8000 {
		m := toldOf(anyBook(dice))
		for range dice.IntN(3) {
			change(dice, &m)
		}
		many[checkGet(t, laid(m))]++
	}
	for _, err := range []api.Errno{api.OK, api.ErrForm, api.ErrArg} {
		if many[err] < 500 {
			t.Errorf("%d came %d times of the 8000: too few to tell much", err, many[err])
		}
	}
}

func FuzzAnyBytes(f *testing.F) {
	f.Add([]byte(nil))
	for _, m := range few() {
		f.Add([]byte(laid(m)))
		f.Add([]byte(body(m)))
	}
	for _, x := range badManifests() {
		f.Add([]byte(body(x.m)))
	}
	f.Fuzz(func(t *testing.T, b []byte) {
		checkGet(t, string(b))
		if len(b) <= 100000 {
			checkGet(t, packed(1, string(b)))
		}
	})
}
