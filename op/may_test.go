package op_test

import (
	"fmt"
	"math/rand/v2"
	"slices"
	"testing"

	"rolodex/api"
	"rolodex/op"
)

func checkMay(t *testing.T, why string, o api.Op, want bool) {
	t.Helper()
	if got := op.May(o); got != want {
		t.Errorf("%s: May(%s) is %t", why, told(o), got)
	}
}

func TestP15_1MayAsItMayBe(t *testing.T) {
	for _, o := range slices.Concat(goodOps(), ofEach()) {
		checkMay(t, "as it may be", o, true)
	}
}

func TestP15_1MayNot(t *testing.T) {
	for why, o := range badOps() {
		checkMay(t, why, o, false)
	}
}

func TestP15_1MayOfAnotherKind(t *testing.T) {
	for _, kind := range append(edges(), 2, 5, 6, 255, 258) {
		for _, o := range append(ofEach(), api.Op{S: by(1, 0)}) {
			was := o.Kind
			o.Kind = kind
			// A bare one, whose Kind was 0, may be of any of the four.
			bare := o.No == 0 && kind >= 0 && kind <= 3
			checkMay(t, fmt.Sprint("kind ", was, " as kind ", kind), o, bare || was == kind)
		}
		checkMay(t, fmt.Sprint("nothing but S, and kind ", kind), api.Op{Kind: kind, S: by(1, 0)}, kind >= 0 && kind <= 3)
	}
}

func TestP15_1MayOfAStamp(t *testing.T) {
	for _, o := range ofEach() {
		for _, s := range badStamps() {
			o.S = s
			checkMay(t, "the stamp", o, false)
		}
		for _, s := range []api.Stamp{by(1, 0), by(1, 7), by(maxN, 0), by(maxN, 7)} {
			o.S = s
			checkMay(t, "the stamp", o, true)
		}
	}
}

// Each of the parts, by itself, is of some kinds alone.
func TestP15_1MayOfPartsThatAKindDoesNotHave(t *testing.T) {
	for part, kinds := range map[string][]int{"No": {asSet, asCopy, asDelta}, "V": {asSet}, "P, a text": {asDelta}, "P, a copy": {asDelta}, "From": {asCopy}, "From, the end": {asCopy}, "FromNo": {asCopy}, "D": {asCopy, asDelta}, "D, the end": {asCopy, asDelta}} {
		for kind, o := range ofEach() {
			checkMay(t, fmt.Sprint("kind ", kind, ", with ", part), changed(o, setParts()[part]), slices.Contains(kinds, kind))
			bare := api.Op{Kind: kind, S: by(1, 0)}
			checkMay(t, fmt.Sprint("kind ", kind, ", with ", part, " alone"), changed(bare, setParts()[part]), slices.Contains(kinds, kind))
		}
	}
}

func TestP15_1MayOfNumbers(t *testing.T) {
	for _, n := range append(edges(), 2, 5, 6, 9) {
		is := n >= 0 && n <= 7
		for kind, o := range ofEach() {
			o.No = n
			checkMay(t, fmt.Sprint("No ", n), o, is && (kind != asKill || n == 0))
		}
		for kind, o := range ofEach() {
			o.FromNo = n
			checkMay(t, fmt.Sprint("FromNo ", n), o, kind == asCopy && is || n == 0)
		}
	}
}

func TestP15_1MayOfAValue(t *testing.T) {
	for many := range maxVal + 3 {
		checkMay(t, fmt.Sprint("V of ", many), set(1, 1, 1, 1, scattered(many)), many <= maxVal)
	}
	for _, many := range []int{255, 256, 257, 1 << 16, 1<<16 + 1, 1 << 20} {
		checkMay(t, fmt.Sprint("V of ", many), set(1, 1, 1, 1, scattered(many)), false)
	}
}

func TestP15_1MayOfPieces(t *testing.T) {
	for _, l := range goodPieces() {
		checkMay(t, "pieces that may be", deltaOf(1, 1, 1, 1, "", l...), true)
		for _, o := range ofEach()[:asDelta] {
			o.P = l
			checkMay(t, "pieces of another kind", o, len(l) == 0)
		}
	}
	for _, l := range badPieces() {
		checkMay(t, "pieces that may not be", deltaOf(1, 1, 1, 1, "", l...), false)
	}
}

// Neither where a record is nor what a digest is is asked.
func TestP15_1MayAsksNothingElse(t *testing.T) {
	for _, o := range ofEach() {
		for _, id := range []api.ID{{}, {255}, {15: 255}} {
			o.ID = id
			checkMay(t, "any name", o, true)
		}
	}
	o := copyOf(1, 1, 1, 1, 1, 1, "")
	for i := range o.D {
		o.D[i] ^= 255
		checkMay(t, "any digest", o, true)
	}
	o.D = api.Digest{}
	checkMay(t, "a zero digest", o, true)
}

func TestP15_1MayOfAny(t *testing.T) {
	dice := rand.New(rand.NewPCG(15, 1))
	all := slices.Concat(goodOps(), ofEach())
	for range 20000 {
		o := mixed(dice, all)
		checkMay(t, "mixed", o, toldMay(o))
	}
}

// mixed has parts of several ones, and now and then one that may not be.
func mixed(dice *rand.Rand, all []api.Op) api.Op {
	one := func() api.Op { return all[dice.IntN(len(all))] }
	o := one()
	o.ID, o.S = one().ID, one().S
	for range dice.IntN(3) {
		switch dice.IntN(7) {
		case 0:
			o.No = one().No
		case 1:
			o.V = one().V
		case 2:
			o.P = one().P
		case 3:
			o.From, o.FromNo = one().From, one().FromNo
		case 4:
			o.D = one().D
		case 5:
			o.Kind = dice.IntN(6) - 1
		default:
			o.No = dice.IntN(10) - 1
		}
	}
	return o
}

func checkSame(t *testing.T, a, b api.Op, want bool) {
	t.Helper()
	if op.Same(a, b) != want || op.Same(b, a) != want {
		t.Errorf("Same(%s, %s) is %t, and the other way round %t", told(a), told(b), op.Same(a, b), op.Same(b, a))
	}
}

func TestP15_1SameOfEach(t *testing.T) {
	all := slices.Concat(goodOps(), ofEach())
	for _, o := range badOps() {
		all = append(all, o)
	}
	for _, a := range all {
		checkSame(t, a, changed(a, func(*api.Op) {}), true)
	}
	for i, a := range all {
		for _, b := range all[:min(i, 60)] {
			checkSame(t, a, b, speltOp(a) == speltOp(b))
		}
	}
}

// One part at a time, of what may be done and of what may not.
func TestP15_1SameWithOnePartChanged(t *testing.T) {
	full := api.Op{Kind: 3, ID: api.ID{1}, S: by(4, 5), No: 6, V: "v", P: list(copied(1, 2), text("t"), copied(3, 4)), From: api.ID{2}, FromNo: 3, D: api.Digest{4}}
	for _, o := range append(ofEach(), full, api.Op{}) {
		for _, change := range []func(o *api.Op){
			func(o *api.Op) { o.Kind++ },
			func(o *api.Op) { o.Kind = -1 },
			func(o *api.Op) { o.ID[0]++ },
			func(o *api.Op) { o.ID[15]++ },
			func(o *api.Op) { o.S.N++ },
			func(o *api.Op) { o.S.Rep++ },
			func(o *api.Op) { o.No++ },
			func(o *api.Op) { o.No += 256 },
			func(o *api.Op) { o.V += "\x00" },
			func(o *api.Op) { o.V = "V" + o.V },
			func(o *api.Op) { o.From[0]++ },
			func(o *api.Op) { o.From[15]++ },
			func(o *api.Op) { o.FromNo++ },
			func(o *api.Op) { o.FromNo -= 256 },
			func(o *api.Op) { o.D[0]++ },
			func(o *api.Op) { o.D[31]++ },
			func(o *api.Op) { o.P = append(o.P, api.Piece{}) },
			func(o *api.Op) { o.P = slices.Insert(o.P, 0, text("t")) },
		} {
			checkSame(t, o, changed(o, change), false)
		}
	}
	for i := range full.P {
		for _, change := range []func(p *api.Piece){
			func(p *api.Piece) { p.Copy = !p.Copy },
			func(p *api.Piece) { p.From++ },
			func(p *api.Piece) { p.Len-- },
			func(p *api.Piece) { p.Lit += "a" },
		} {
			checkSame(t, full, changed(full, func(o *api.Op) { change(&o.P[i]) }), false)
		}
		checkSame(t, full, changed(full, func(o *api.Op) { o.P = slices.Delete(o.P, i, i+1) }), false)
	}
}

func TestP15_1SameOfPiecesInAnotherOrder(t *testing.T) {
	a, b, c := copied(1, 2), text("t"), copied(3, 4)
	one := deltaOf(1, 1, 1, 1, "", a, b, c)
	for _, l := range [][]api.Piece{{a, c, b}, {b, a, c}, {b, c, a}, {c, a, b}, {c, b, a}} {
		checkSame(t, one, deltaOf(1, 1, 1, 1, "", l...), false)
	}
	checkSame(t, one, deltaOf(1, 1, 1, 1, "", a, b, c), true)
	checkSame(t, deltaOf(1, 1, 1, 1, ""), deltaOf(1, 1, 1, 1, "", []api.Piece{}...), true)
	checkSame(t, api.Op{P: nil}, api.Op{P: []api.Piece{}}, true)
}
