package manic_test

import (
	"hash/crc32"
	"strings"

	"rolodex/api"
)

// Here are the document's words for what bytes are and tell, by the test's own ways: they share nothing with what is tested.

// number is n by groups of seven bits.
func number(n uint64) string {
	s := string([]byte{byte(n % 128)})
	for n /= 128; n > 0; n /= 128 {
		s = string([]byte{128 + byte(n%128)}) + s
	}
	return s
}

func laidStamp(s api.Stamp) string { return number(8*uint64(s.N) + uint64(s.Rep)) }

func word(n uint32) string {
	return string([]byte{byte(n / 16777216), byte(n / 65536 % 256), byte(n / 256 % 256), byte(n % 256)})
}

// parts are a manifest's bytes, part by part, whether it may be or not.
func parts(m api.Manifest) []string {
	l := []string{string(m.Base[:]), number(uint64(len(m.L)))}
	for _, x := range m.L {
		l = append(l, string(x.ID[:]), laidStamp(x.Dead), number(uint64(len(x.F))))
		for _, e := range x.F {
			l = append(l, string([]byte{byte(e.No)}), laidStamp(e.S), number(uint64(e.Len)), string(e.D[:]))
			for _, block := range e.B {
				l = append(l, word(block.Weak), string(block.Strong[:]))
			}
		}
	}
	return l
}

// body is a manifest's bytes, without the section they are in.
func body(m api.Manifest) string { return strings.Join(parts(m), "") }

// packed is a section of a kind, its check by Go's own library.
func packed(kind byte, body string) string {
	s := string([]byte{kind}) + number(uint64(len(body))) + body
	return s + word(crc32.ChecksumIEEE([]byte(s)))
}

// laid is what a manifest's bytes would be.
func laid(m api.Manifest) string { return packed(1, body(m)) }

// cutter cuts parts from the front of bytes. It takes numbers as they come, also those with too many bytes: whether they are such is asked of all of it, laid again.
type cutter struct {
	s   string
	bad bool
}

func (c *cutter) cut(many int) string {
	if c.bad = c.bad || many > len(c.s); c.bad {
		return strings.Repeat("\x00", many)
	}
	part := c.s[:many]
	c.s = c.s[many:]
	return part
}

func (c *cutter) number(most uint64) int {
	n := uint64(0)
	for {
		x := c.cut(1)[0]
		n = n*128 + uint64(x%128)
		if x < 128 {
			break
		}
	}
	if c.bad = c.bad || n > most; c.bad {
		return 0
	}
	return int(n)
}

func (c *cutter) stamp() api.Stamp {
	n := c.number(8*maxN + 7)
	c.bad = c.bad || n > 0 && n < 8
	return by(n/8, n%8)
}

func (c *cutter) entry() api.Entry {
	e := api.Entry{No: int(c.cut(1)[0]), S: c.stamp(), Len: c.number(maxVal), D: api.Digest([]byte(c.cut(32)))}
	for range len(toldBlocks(strings.Repeat("a", e.Len))) {
		w := c.cut(4)
		weak := uint32(w[0])*16777216 + uint32(w[1])*65536 + uint32(w[2])*256 + uint32(w[3])
		e.B = append(e.B, api.Sig{Weak: weak, Strong: api.Digest([]byte(c.cut(32)))})
	}
	return e
}

// toldBody is the manifest whose bytes these are, whether it may be or not.
func toldBody(s string) (api.Manifest, bool) {
	c := cutter{s: s}
	m := api.Manifest{Base: api.Digest([]byte(c.cut(32)))}
	for range c.number(maxRecs) {
		l := api.Line{ID: api.ID([]byte(c.cut(16))), Dead: c.stamp()}
		for range c.number(maxNo) {
			l.F = append(l.F, c.entry())
		}
		m.L = append(m.L, l)
	}
	return m, !c.bad && body(m) == s
}

// toldMay is the document's words for a manifest that may be.
func toldMay(m api.Manifest) bool {
	is := len(m.L) <= 10
	for i, l := range m.L {
		is = is && (i == 0 || string(m.L[i-1].ID[:]) < string(l.ID[:]))
		is = is && toldStamp(l.Dead) && !(len(l.F) == 0 && l.Dead == by(0, 0))
		for j, e := range l.F {
			is = is && e.No > -1 && e.No < 8 && (j == 0 || l.F[j-1].No < e.No)
			is = is && toldStamp(e.S) && (l.Dead.N < e.S.N || l.Dead.N == e.S.N && l.Dead.Rep < e.S.Rep)
			is = is && e.Len > -1 && e.Len < 201 && len(e.B) == len(toldBlocks(strings.Repeat("a", max(0, min(e.Len, 201)))))
		}
	}
	return is
}

func toldStamp(s api.Stamp) bool {
	return s == by(0, 0) || s.N > 0 && s.N <= maxN && s.Rep > -1 && s.Rep < 8
}

// toldOpen is the kind, the bytes, and what stands behind, of the section that s begins by, and the error.
func toldOpen(s string) (kind byte, of, behind string, err api.Errno) {
	c := cutter{s: s}
	kind = c.cut(1)[0]
	many := c.number(100000)
	head := number(uint64(many))
	of = c.cut(many)
	check := c.cut(4)
	if c.bad || kind > 9 || !strings.HasPrefix(s[1:], head+of+check) {
		return 0, "", "", api.ErrForm
	}
	if check != word(crc32.ChecksumIEEE([]byte(s[:1+len(head)+many]))) {
		return 0, "", "", api.ErrCheck
	}
	return kind, of, c.s, api.OK
}

// toldGet is what bytes tell.
func toldGet(s string) (api.Manifest, api.Errno) {
	kind, of, behind, err := toldOpen(s)
	if err != api.OK {
		return api.Manifest{}, err
	}
	m, is := toldBody(of)
	if kind != 1 || behind != "" || !is {
		return api.Manifest{}, api.ErrForm
	}
	if !toldMay(m) {
		return api.Manifest{}, api.ErrArg
	}
	return m, api.OK
}
