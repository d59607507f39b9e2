package canon_test

import (
	"bytes"
	"math/rand/v2"
	"slices"
	"strings"
	"testing"

	"rolodex/api"
	"rolodex/book"
	"rolodex/canon"
)

func checkGot(t *testing.T, b string, want api.Book) {
	t.Helper()
	if got, is := canon.Get([]byte(b)); !book.Same(got, want) || !is {
		t.Errorf("Get(%q) = %s, %t; want %s", b, told(got), is, told(want))
	}
}

func checkNone(t *testing.T, why string, b []byte) {
	t.Helper()
	if got, is := canon.Get(b); len(got.R) != 0 || is {
		t.Errorf("%s: Get(%.200q) = %s, %t; want no records and false", why, b, told(got), is)
	}
}

func TestP8_2Get(t *testing.T) {
	for _, b := range goodBooks() {
		checkGot(t, laid(b), b)
	}
}

func TestP8_2GetOfWhatMayNotBe(t *testing.T) {
	for _, x := range badBooks() {
		checkNone(t, x.why, []byte(laid(x.b)))
	}
}

// The bytes that a slice has room for, behind its length, are not its own.
func TestP8_2GetOfABeginning(t *testing.T) {
	checkNone(t, "nil", nil)
	checkNone(t, "empty", []byte{})
	for _, b := range goodBooks() {
		p := []byte(laid(b))
		for many := range len(p) {
			checkNone(t, "a beginning", p[:many])
			checkNone(t, "a beginning, without room", slices.Clip(p[:many]))
		}
	}
}

func TestP8_2GetOfMoreBytes(t *testing.T) {
	for _, b := range goodBooks() {
		p := laid(b)
		for _, more := range []string{"\x00", "\x80", "\xff", "z", name(250) + "\x08\x00", name(250), "some more bytes", p} {
			checkNone(t, "more behind", []byte(p+more))
		}
		checkNone(t, "more ahead", []byte("\x80"+p))
	}
}

// The numbers wrap around to those that would fit, if they are not held against the bounds as they are.
func TestP8_2GetOfWrongNumbers(t *testing.T) {
	for _, n := range []uint64{2, 9, 10, 11, 16, 127, 128, 256, 257, 1<<16 + 1, 1 << 31, 1 << 32, 1<<32 + 1, 1 << 62, 1 << 63, 1<<63 + 1, 1<<64 - 1, 1<<64 - 2} {
		checkNone(t, "records", []byte(number(n)))
		checkNone(t, "records", []byte(number(n)+name(1)+"\x08\x00"))
		checkNone(t, "records", []byte(number(n)+name(1)+"\x00\x01\x00\x08\x01a"))
		checkNone(t, "fields", []byte("\x01"+name(1)+"\x08"+number(n)))
		checkNone(t, "fields", []byte("\x01"+name(1)+"\x08"+number(n)+"\x00\x10\x01a"))
		checkNone(t, "bytes of a value", []byte("\x01"+name(1)+"\x00\x01\x00\x08"+number(n)))
		checkNone(t, "bytes of a value", []byte("\x01"+name(1)+"\x00\x01\x00\x08"+number(n)+"a"))
	}
	checkNone(t, "no records, and one", []byte("\x00"+name(1)+"\x08\x00"))
	checkNone(t, "no fields, and one", []byte("\x01"+name(1)+"\x08\x00\x00\x10\x01a"))
	checkNone(t, "no field, and one", []byte("\x01"+name(1)+"\x00\x00\x00\x10\x01a"))
}

// No number has more groups than tell it.
func TestP8_2GetOfLongNumbers(t *testing.T) {
	field := "\x00\x10\x01a"
	checkGot(t, "\x01"+name(1)+"\x08\x01"+field, of(dead(1, 1, 0, at(0, 2, 0, "a"))))
	for _, p := range []string{
		"\x80\x00",
		"\x80\x80\x00",
		"\x80\x01" + name(1) + "\x08\x01" + field,
		"\x01" + name(1) + "\x80\x08\x01" + field,
		"\x01" + name(1) + "\x08\x80\x01" + field,
		"\x01" + name(1) + "\x08\x80\x00",
		"\x01" + name(1) + "\x80\x00\x01" + field,
		"\x01" + name(1) + "\x08\x01\x00\x80\x10\x01a",
		"\x01" + name(1) + "\x08\x01\x00\x10\x80\x01a",
		"\x01" + name(1) + "\x08\x01\x80\x00\x10\x01a",
		strings.Repeat("\x80", 100) + "\x00",
		strings.Repeat("\xff", 1000),
		"\x01" + name(1) + strings.Repeat("\xff", 1000),
		"\x01" + name(1) + "\x08" + strings.Repeat("\xff", 1000),
	} {
		checkNone(t, "a long number", []byte(p))
	}
}

// A stamp's number of 56 bits and more wraps around, where it is made an int too soon.
func TestP8_2GetOfStampsThatMayNotBe(t *testing.T) {
	for _, s := range []uint64{1, 2, 7, 8 * (maxN + 1), 1 << 62, 1 << 63, 1<<63 + 8, 1<<64 - 8, 1<<64 - 1} {
		checkNone(t, "Dead", []byte("\x01"+name(1)+number(s)+"\x00"))
		checkNone(t, "Dead, and a field", []byte("\x01"+name(1)+number(s)+"\x01\x00"+number(8*maxN+7)+"\x01a"))
		checkNone(t, "a cell's", []byte("\x01"+name(1)+"\x00\x01\x00"+number(s)+"\x01a"))
	}
	checkNone(t, "a cell's, zero", []byte("\x01"+name(1)+"\x00\x01\x00\x00\x01a"))
}

// checkAgain holds that bytes are got as a book whose bytes they are, or not at all.
func checkAgain(t *testing.T, b []byte) {
	t.Helper()
	got, is := canon.Get(b)
	if !is {
		if len(got.R) != 0 {
			t.Fatalf("Get(%q) = %s, %t; want no records", b, told(got), is)
		}
		return
	}
	if p, may := canon.Put(got); !may || !book.May(got) || !bytes.Equal(p, b) || laid(got) != string(b) {
		t.Fatalf("Get(%q) = %s, and its Put is %q, %t", b, told(got), p, may)
	}
}

func TestP8_3WhatIsPutIsGot(t *testing.T) {
	for _, b := range goodBooks() {
		p, _ := canon.Put(b)
		checkGot(t, string(p), b)
		checkAgain(t, p)
	}
}

func TestP8_3OfAllShortBytes(t *testing.T) {
	checkAgain(t, nil)
	for one := range 256 {
		checkAgain(t, []byte{byte(one)})
		for two := range 256 {
			checkAgain(t, []byte{byte(one), byte(two)})
			checkAgain(t, []byte("\x01"+name(1)+string([]byte{byte(one), byte(two)})))
			checkAgain(t, []byte("\x01"+name(1)+"\x08\x01"+string([]byte{byte(one), byte(two)})+"\x01a"))
			checkAgain(t, []byte("\x01"+name(1)+string([]byte{byte(one), byte(two)})+"\x00\x10\x01a"))
		}
	}
}

// Of one byte there is just the book without records; of a stamp's byte just those of 1 and more; of a number's just those below 8.
func TestP8_2WhichShortBytesAreGot(t *testing.T) {
	for one := range 256 {
		if _, is := canon.Get([]byte{byte(one)}); is != (one == 0) {
			t.Errorf("Get of %d alone tells %t", one, is)
		}
		if _, is := canon.Get([]byte("\x01" + name(1) + string([]byte{byte(one)}) + "\x00")); is != (8 <= one && one < 128) {
			t.Errorf("Get of a record dead since %d tells %t", one, is)
		}
		if _, is := canon.Get([]byte("\x01" + name(1) + "\x00\x01" + string([]byte{byte(one)}) + "\x08\x00")); is != (one < maxNo) {
			t.Errorf("Get of a field %d tells %t", one, is)
		}
	}
}

// otherBytes is what a byte is changed by: by all there is, where there is not too much to change.
func otherBytes(many int) []byte {
	if many > 100 {
		return []byte{1, 2, 4, 8, 16, 32, 64, 128, 255}
	}
	var all []byte
	for d := range 255 {
		all = append(all, byte(d+1))
	}
	return all
}

// Each byte is changed, and is left out, and stands twice.
func TestP8_3OfBytesWithOneChanged(t *testing.T) {
	for _, b := range goodBooks() {
		p := []byte(laid(b))
		for i, was := range p {
			for _, d := range otherBytes(len(p)) {
				p[i] = was + d
				checkAgain(t, p)
			}
			p[i] = was
			checkAgain(t, slices.Delete(slices.Clone(p), i, i+1))
			checkAgain(t, slices.Insert(slices.Clone(p), i, was))
		}
	}
}

// Books of small numbers, many of which may not be: got just if they may.
func TestP8_2GetOfAnyLaidBook(t *testing.T) {
	dice := rand.New(rand.NewPCG(8, 24))
	good := 0
	for range 20000 {
		b := anyBook(dice)
		if !book.May(b) {
			checkNone(t, "may not be", []byte(laid(b)))
			continue
		}
		good++
		checkGot(t, laid(b), b)
		checkAgain(t, []byte(laid(b)))
	}
	if good < 2000 || good > 18000 {
		t.Errorf("%d books may be: both kinds are to be tried", good)
	}
}

func anyBook(dice *rand.Rand) api.Book {
	var b api.Book
	for id := range dice.IntN(4) {
		r := dead(byte(id), dice.IntN(3), dice.IntN(2))
		if dice.IntN(8) == 0 {
			r.ID[0] = byte(dice.IntN(4))
		}
		if r.Dead.N == 0 && dice.IntN(8) > 0 {
			r.Dead.Rep = 0
		}
		for no := range dice.IntN(4) {
			r.F = append(r.F, at(no*(1+dice.IntN(2)), 2+dice.IntN(3), dice.IntN(maxRep), strings.Repeat("v", dice.IntN(3))))
		}
		b.R = append(b.R, r)
	}
	return b
}

func FuzzAnyBytes(f *testing.F) {
	f.Add([]byte(nil))
	for _, b := range goodBooks() {
		f.Add([]byte(laid(b)))
	}
	for _, x := range badBooks() {
		f.Add([]byte(laid(x.b)))
	}
	f.Fuzz(func(t *testing.T, b []byte) {
		checkAgain(t, b)
	})
}
