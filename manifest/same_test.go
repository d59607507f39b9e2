package manifest_test

import (
	"slices"
	"testing"

	"rolodex/api"
	"rolodex/manifest"
)

func checkSame(t *testing.T, what string, a, b api.Manifest, want bool) {
	t.Helper()
	if is, back := manifest.Same(a, b), manifest.Same(b, a); is != want || back != want {
		t.Errorf("%s: Same(%s, %s) = %t, and the other way %t; want %t", what, told(a), told(b), is, back, want)
	}
}

func sampleManifests() []api.Manifest {
	var l []api.Manifest
	for _, b := range goodBooks() {
		l = append(l, toldOf(b))
	}
	return append(l, mayNotBe()...)
}

func TestP12_1SameOfTheSame(t *testing.T) {
	all := sampleManifests()
	var texts []string
	for i, a := range all {
		checkSame(t, "itself", a, a, true)
		checkSame(t, "a clone", a, clone(a), true)
		texts = append(texts, spelt(a))
		for j, b := range all[:i] {
			checkSame(t, "two", a, b, texts[i] == texts[j])
		}
	}
}

// A list without elements is the same whether it is nil or empty.
func TestP12_1SameOfNoElements(t *testing.T) {
	checkSame(t, "no lines", api.Manifest{}, api.Manifest{L: []api.Line{}}, true)
	none, empty := line(1, by(1, 0)), line(1, by(1, 0))
	empty.F = []api.Entry{}
	checkSame(t, "no entries", lines(none), lines(empty), true)
	e := entry(0, by(1, 0), "a")
	without := e
	e.B, without.B = []api.Sig{}, nil
	checkSame(t, "no blocks", one(e), one(without), true)
	checkSame(t, "a zero line more", lines(), lines(api.Line{}), false)
	checkSame(t, "a zero entry more", lines(none), lines(line(1, by(1, 0), api.Entry{})), false)
	without.B = make([]api.Sig, 1)
	checkSame(t, "a zero block more", one(e), one(without), false)
}

func TestP12_1SameOfAnotherOrder(t *testing.T) {
	a, b, c := entry(0, by(1, 0), "a"), entry(1, by(2, 0), scattered(40)), entry(2, by(3, 0), "c")
	checkSame(t, "entries", one(a, b, c), one(a, b, c), true)
	for _, l := range [][]api.Entry{{a, c, b}, {b, a, c}, {c, b, a}, {b, c, a}, {a, b}, {b, c}, {a, a, c}, {a, b, c, c}, {}} {
		checkSame(t, "entries", one(a, b, c), one(l...), false)
	}
	x, y, z := line(1, by(1, 0), a, b), line(2, by(2, 0)), line(3, by(0, 0), c)
	checkSame(t, "lines", lines(x, y, z), lines(x, y, z), true)
	for _, l := range [][]api.Line{{x, z, y}, {y, x, z}, {z, y, x}, {y, z, x}, {x, y}, {y, z}, {x, x, z}, {x, y, z, z}, {}} {
		checkSame(t, "lines", lines(x, y, z), lines(l...), false)
	}
	turned := b
	turned.B = slices.Clone(b.B)
	slices.Reverse(turned.B)
	checkSame(t, "blocks", one(b), one(turned), false)
	// What is known of one record stands in another one's line.
	checkSame(t, "entries moved", lines(line(1, by(0, 0), a, b), line(2, by(0, 0), c)), lines(line(1, by(0, 0), a), line(2, by(0, 0), b, c)), false)
}

func TestP12_1SameWithEachMemberAnother(t *testing.T) {
	type change struct {
		what string
		make func(m *api.Manifest, l *api.Line, e *api.Entry)
	}
	all := []change{
		{"Base's first byte", func(m *api.Manifest, l *api.Line, e *api.Entry) { m.Base[0]++ }},
		{"Base's last byte", func(m *api.Manifest, l *api.Line, e *api.Entry) { m.Base[31]++ }},
		{"ID's first byte", func(m *api.Manifest, l *api.Line, e *api.Entry) { l.ID[0]++ }},
		{"ID's last byte", func(m *api.Manifest, l *api.Line, e *api.Entry) { l.ID[15]++ }},
		{"Dead's N", func(m *api.Manifest, l *api.Line, e *api.Entry) { l.Dead.N++ }},
		{"Dead's N, far off", func(m *api.Manifest, l *api.Line, e *api.Entry) { l.Dead.N += 1 << 40 }},
		{"Dead's Rep", func(m *api.Manifest, l *api.Line, e *api.Entry) { l.Dead.Rep++ }},
		{"No", func(m *api.Manifest, l *api.Line, e *api.Entry) { e.No++ }},
		{"No, far off", func(m *api.Manifest, l *api.Line, e *api.Entry) { e.No -= 1 << 40 }},
		{"S's N", func(m *api.Manifest, l *api.Line, e *api.Entry) { e.S.N++ }},
		{"S's Rep", func(m *api.Manifest, l *api.Line, e *api.Entry) { e.S.Rep++ }},
		{"Len", func(m *api.Manifest, l *api.Line, e *api.Entry) { e.Len++ }},
		{"Len, far off", func(m *api.Manifest, l *api.Line, e *api.Entry) { e.Len += 1 << 40 }},
		{"D's first byte", func(m *api.Manifest, l *api.Line, e *api.Entry) { e.D[0]++ }},
		{"D's last byte", func(m *api.Manifest, l *api.Line, e *api.Entry) { e.D[31]++ }},
		{"a block more", func(m *api.Manifest, l *api.Line, e *api.Entry) { e.B = append(e.B, toldBlock("abcdefgh")) }},
		{"a block fewer", func(m *api.Manifest, l *api.Line, e *api.Entry) { e.B = e.B[:len(e.B)-1] }},
		{"an entry more", func(m *api.Manifest, l *api.Line, e *api.Entry) { l.F = append(l.F, entry(7, by(9, 9), "z")) }},
		{"an entry fewer", func(m *api.Manifest, l *api.Line, e *api.Entry) { l.F = l.F[1:] }},
		{"a line more", func(m *api.Manifest, l *api.Line, e *api.Entry) { m.L = append(m.L, line(200, by(9, 0))) }},
		{"a line fewer", func(m *api.Manifest, l *api.Line, e *api.Entry) { m.L = m.L[1:] }},
	}
	for i := range 4 {
		all = append(all,
			change{"Weak", func(m *api.Manifest, l *api.Line, e *api.Entry) { e.B[i].Weak++ }},
			change{"Weak's greatest bit", func(m *api.Manifest, l *api.Line, e *api.Entry) { e.B[i].Weak ^= 1 << 31 }},
			change{"Strong's first byte", func(m *api.Manifest, l *api.Line, e *api.Entry) { e.B[i].Strong[0]++ }},
			change{"Strong's last byte", func(m *api.Manifest, l *api.Line, e *api.Entry) { e.B[i].Strong[31]++ }})
	}
	base := lines(
		line(1, by(1, 0), entry(0, by(2, 0), scattered(32)), entry(3, by(2, 1), scattered(39))),
		line(2, by(0, 0), entry(5, by(7, 7), scattered(33))),
		line(3, by(4, 4), entry(0, by(7, 7), scattered(34)), entry(1, by(7, 7), scattered(35)), entry(2, by(5, 0), scattered(36))))
	for i, l := range base.L {
		for j := range l.F {
			for _, x := range all {
				m := clone(base)
				x.make(&m, &m.L[i], &m.L[i].F[j])
				checkSame(t, x.what, base, m, false)
			}
		}
	}
}
