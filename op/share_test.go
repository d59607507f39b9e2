package op_test

import (
	"fmt"
	"math/rand/v2"
	"slices"
	"testing"

	"rolodex/api"
	"rolodex/op"
)

// checkAll holds all calls of one against the chapter's words.
func checkAll(t *testing.T, why string, b api.Book, o api.Op) {
	t.Helper()
	is := toldMay(o)
	checkMay(t, why, o, is)
	checkSame(t, o, o, true)
	checkDoAsTold(t, why, b, o)
	if !is {
		checkNoPut(t, why, o)
		return
	}
	p := toldPut(o)
	checkPut(t, o, string(p))
	checkGet(t, p, o, len(p))
}

// What may not be, and great numbers: each call ends, and none panics.
func TestR1Anything(t *testing.T) {
	all := slices.Concat(goodOps(), ofEach())
	for _, o := range badOps() {
		all = append(all, o)
	}
	for _, b := range []api.Book{{}, span(3), badBooks()[3], badBooks()[22], badBooks()[23]} {
		for _, o := range all {
			checkAll(t, "anything", b, o)
		}
	}
}

func TestR1GreatNumbers(t *testing.T) {
	for _, n := range edges() {
		for _, k := range edges() {
			for kind := -1; kind <= 4; kind++ {
				o := api.Op{Kind: kind, S: by(n, k)}
				checkAll(t, "great numbers", span(3), o)
				o.S, o.No = by(1, 0), n
				checkAll(t, "great numbers", span(3), o)
				o.FromNo = k
				checkAll(t, "great numbers", span(3), o)
			}
			checkAll(t, "great numbers", span(3), api.Op{Kind: n, S: by(k, 0), No: k, FromNo: n})
			checkAll(t, "great numbers", span(3), deltaOf(1, 1, 9, 0, "", copied(n, k)))
			checkAll(t, "great numbers", span(3), deltaOf(1, 1, 9, 0, "", text("a"), copied(k, n), copied(n, n)))
			checkAll(t, "great numbers", span(3), deltaOf(1, 1, 9, 0, "", api.Piece{From: n, Len: k, Lit: "a"}))
			checkDoAsTold(t, "great numbers", of(dead(1, n, k)), kill(1, 3, 0))
			checkDoAsTold(t, "great numbers", of(live(1, at(n, k, n, "a"))), copyOf(1, 1, 3, 0, 1, 0, "a"))
			checkDoAsTold(t, "great numbers", of(live(1, at(0, k, n, "a"))), deltaOf(1, 0, 3, 0, "a", copied(0, 1)))
		}
	}
}

// Of very many pieces, records and bytes each is looked at no more than a few times.
func TestR1Many(t *testing.T) {
	const many = 1 << 19
	long := scattered(many)
	for _, o := range []api.Op{
		{Kind: asSet, S: by(1, 0), V: long}, {Kind: asKill, S: by(1, 0), V: long}, {Kind: asDelta, S: by(1, 0), P: list(text(long))},
		{Kind: asDelta, S: by(1, 0), P: slices.Repeat(list(text("a")), many)}, {Kind: asDelta, S: by(1, 0), P: slices.Repeat(list(copied(0, 1)), many)},
		{Kind: asSet, S: by(1, 0), P: slices.Repeat(list(text("a")), many)}, {Kind: asDelta, S: by(1, 0), P: make([]api.Piece, many)},
	} {
		checkMay(t, "many", o, false)
		checkNoPut(t, "many", o)
		checkSame(t, o, o, true)
		checkSame(t, o, changed(o, func(o *api.Op) { o.P = append(o.P, text("b")) }), false)
		checkNoDo(t, "many", span(3), o, api.ErrArg)
	}
	for _, b := range []api.Book{of(make([]api.Rec, many)...), of(slices.Repeat([]api.Rec{dead(1, 1, 0)}, many)...), of(live(1, make([]api.Field, many)...)), of(live(1, at(0, 1, 0, long)))} {
		for _, o := range ofEach() {
			checkNoDo(t, "many", b, o, api.ErrArg)
		}
	}
	for _, first := range []string{"", "\x00", "\x01", "\x02", "\x03", "\x04", "\xff"} {
		for _, x := range []byte{0, 1, 8, 127, 128, 200, 255} {
			checkGot(t, append([]byte(first), slices.Repeat([]byte{x}, many)...))
		}
		checkGot(t, []byte(first+long))
	}
	for _, o := range ofEach() {
		b := toldPut(o)
		checkGet(t, append(b, long...), o, len(b))
	}
}

const spare = 5

// roomyBook is the same book with room behind all lists: there a careless call would write.
func roomyBook(b api.Book) api.Book {
	l := make([]api.Rec, 0, len(b.R)+spare)
	for _, r := range b.R {
		r.F = append(make([]api.Field, 0, len(r.F)+spare), r.F...)
		l = append(l, r)
	}
	return api.Book{R: l}
}

// roomy is the same with room behind its pieces.
func roomy(o api.Op) api.Op {
	o.P = append(make([]api.Piece, 0, len(o.P)+spare), o.P...)
	return o
}

// whole is all that some roomy records have room for, as a text.
func whole(l []api.Rec) string {
	l = slices.Clone(l[:cap(l)])
	for i, r := range l {
		l[i].F = r.F[:cap(r.F)]
	}
	return spelt(l)
}

// wholeOp is all that a roomy one has room for, as a text.
func wholeOp(o api.Op) string {
	o.P = o.P[:cap(o.P)]
	return speltOp(o)
}

// spoil writes over all of some records, and the room behind them.
func spoil(l []api.Rec) {
	for _, r := range l {
		spoilFields(r.F)
	}
	for i := range l[:cap(l)] {
		l[:cap(l)][i] = dead(99, 77, 7)
	}
}

func spoilFields(l []api.Field) {
	for i := range l[:cap(l)] {
		l[:cap(l)][i] = at(6, 77, 7, "changed")
	}
}

func spoilPieces(l []api.Piece) {
	for i := range l[:cap(l)] {
		l[:cap(l)][i] = text("changed")
	}
}

func spoilBytes(b []byte) {
	for i := range b[:cap(b)] {
		b[:cap(b)][i] = 99
	}
}

// sampleOps are some that may be done, mostly with what is there, and some that may not.
func sampleOps() []api.Op {
	l := []api.Op{
		kill(0, 9, 0), kill(77, 9, 0), set(0, 0, 9, 0, "x"), set(77, 0, 9, 0, "x"), set(1, 3, 1, 0, "x"), copyOf(0, 3, 9, 0, 0, 0, "a"), copyOf(77, 3, 9, 0, 0, 0, ""), copyOf(1, 3, 9, 0, 1, 5, scattered(35)), copyOf(1, 3, 9, 0, 1, 5, "another"), copyOf(1, 3, 9, 0, 88, 5, ""),
		deltaOf(0, 0, 9, 0, "xv", text("x"), text("v")), deltaOf(1, 5, 9, 0, scattered(35), copied(0, 35)), deltaOf(1, 5, 9, 0, "another", copied(0, 35)), deltaOf(1, 5, 9, 0, "", copied(0, 200)), deltaOf(77, 5, 9, 0, "", copied(0, 200)),
		{}, set(0, 8, 1, 0, "x"), deltaOf(1, 5, 9, 0, "", text("")), {Kind: asSet, S: by(1, 0), P: list(text("a"))},
	}
	return append(l, ofEach()...)
}

// checkIn tells whether what was handed in is as it was.
func checkIn(t *testing.T, o api.Op, was string) {
	t.Helper()
	if wholeOp(o) != was {
		t.Errorf("%s was handed in, and is %s now", was, told(o))
	}
}

func TestR3MayAndSameChangeNothing(t *testing.T) {
	for _, x := range sampleOps() {
		o := roomy(x)
		was := wholeOp(o)
		op.May(o)
		op.Size(o)
		for _, y := range sampleOps() {
			other := roomy(y)
			wasOther := wholeOp(other)
			op.Same(o, other)
			checkIn(t, other, wasOther)
		}
		checkIn(t, o, was)
	}
}

func TestR3PutSharesNothing(t *testing.T) {
	for _, x := range append(sampleOps(), goodOps()...) {
		o := roomy(x)
		was := wholeOp(o)
		got, is := op.Put(o)
		other, _ := op.Put(o)
		want := slices.Clone(other)
		spoilBytes(got)
		checkIn(t, o, was)
		if again, _ := op.Put(o); !slices.Equal(other, want) || !slices.Equal(again, want) || op.Size(o) != len(want) || is != toldMay(x) {
			t.Errorf("Put(%s): behind a change to the answer another answer is % x, and asked again it is % x", told(x), other, again)
		}
		spoilPieces(o.P)
		if !slices.Equal(other, want) {
			t.Errorf("Put(%s) is % x behind a change to what was handed in", told(x), other)
		}
	}
}

func TestR3GetSharesNothing(t *testing.T) {
	for _, x := range append(goodOps(), ofEach()...) {
		p := toldPut(x)
		for many := range len(p) + 1 {
			in := append(make([]byte, 0, many+40), p[:many]...)
			was := string(in[:cap(in)])
			want, used, is := toldGet(p[:many])
			got, _, _ := op.Get(in)
			other, gotUsed, gotIs := op.Get(in)
			spoilPieces(got.P)
			if string(in[:cap(in)]) != was || speltOp(other) != speltOp(want) || gotUsed != used || gotIs != is {
				t.Errorf("Get(% x): behind a change to the answer these are % x, and another answer is %s", p, in, told(other))
			}
			spoilBytes(in)
			if speltOp(other) != speltOp(want) {
				t.Errorf("Get(% x) is %s behind a change to what was handed in", p, told(other))
			}
		}
	}
}

func TestR3DoSharesNothing(t *testing.T) {
	for _, b := range append(goodBooks(), badBooks()...) {
		for _, x := range sampleOps() {
			in, o := roomyBook(b), roomy(x)
			was, wasOp := whole(in.R), wholeOp(o)
			want, _ := toldDo(b, x)
			got, _ := op.Do(in, o)
			other, _ := op.Do(in, o)
			spoil(got.R)
			checkIn(t, o, wasOp)
			if whole(in.R) != was || spelt(other.R) != spelt(want.R) {
				t.Errorf("Do(%s, %s): behind a change to the answer the book is %s, and another answer %s", told(b), told(x), told(in), told(other))
			}
			checkDoAsTold(t, "asked again", in, o)
			spoil(in.R)
			spoilPieces(o.P)
			if spelt(other.R) != spelt(want.R) {
				t.Errorf("Do(%s, %s) is %s behind a change to what was handed in", told(b), told(x), told(other))
			}
		}
	}
}

// The fields of one record may be changed and gone on with, and the others stay.
func TestR3RecordsOfOneAnswerShareNothing(t *testing.T) {
	for _, b := range goodBooks() {
		for _, o := range sampleOps() {
			want, _ := toldDo(b, o)
			for i, r := range want.R {
				got, _ := op.Do(b, o)
				spoilFields(got.R[i].F)
				got.R[i] = r
				if spelt(got.R) != spelt(want.R) {
					t.Errorf("Do(%s, %s): a change to the fields of %d has made %s of it", told(b), told(o), i, told(got))
				}
			}
		}
	}
}

// An answer hangs on nothing that was asked before.
func TestR5AskedAgain(t *testing.T) {
	dice := rand.New(rand.NewPCG(15, 6))
	all := slices.Concat(goodOps(), ofEach())
	var asks []func() string
	ask := func(b api.Book, o api.Op, p []byte) {
		asks = append(asks, func() string {
			put, is := op.Put(o)
			got, many, gotIs := op.Get(p)
			x, err := op.Do(b, o)
			return fmt.Sprint(put, is, speltOp(got), many, gotIs, spelt(x.R), err, op.May(o), op.Size(o), op.Same(o, got))
		})
	}
	for range 200 {
		b := anyBook(dice, 12)
		ask(b, anyOp(dice, b, 13), toldPut(all[dice.IntN(len(all))]))
	}
	for _, o := range badOps() {
		ask(badBooks()[dice.IntN(5)], o, []byte(scattered(dice.IntN(100))))
	}
	var answers []string
	for _, ask := range asks {
		answers = append(answers, ask())
	}
	for i, ask := range slices.Backward(asks) {
		if again := ask(); again != answers[i] {
			t.Errorf("%d: asked again it is %s; it was %s", i, again, answers[i])
		}
	}
}
