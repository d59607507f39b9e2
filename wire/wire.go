// Package wire is layer 1: numbers and texts, as bytes (see shared/doc/01-wire.md).
package wire

const (
	groupBits = 7                     // bits of a number that one byte tells
	more      = 1 << groupBits        // what a byte has on top, if another one follows
	maxGroups = 10                    // as many as the greatest uint64 has
	maxHead   = 1<<(64-groupBits) - 1 // the greatest number behind which another group has room
	wordBytes = 4
	byteBits  = 8
)

// Put is a number as bytes: groups of seven bits, the greatest first.
func Put(n uint64) []byte {
	b := make([]byte, 0, maxGroups)
	for i := range maxGroups {
		behind := maxGroups - 1 - i
		head := n >> (groupBits * uint(behind))
		switch {
		case behind == 0:
			b = append(b, byte(head)&^more)
		case head != 0:
			b = append(b, byte(head)|more)
		}
	}
	return b
}

// Get is the number that b begins by, and how many bytes it has there.
func Get(b []byte) (uint64, int, bool) {
	var n uint64
groups:
	for i := range maxGroups {
		switch {
		case i == len(b):
			break groups
		case i == 0 && b[i] == more: // as few groups as tell a number: the first one is not empty
			break groups
		case n > maxHead:
			break groups
		}
		n = n<<groupBits | uint64(b[i]&^more)
		if b[i] < more {
			return n, i + 1, true
		}
	}
	return 0, 0, false
}

// Text is how many bytes s has, and these.
func Text(s string) []byte {
	return append(Put(uint64(len(s))), s...)
}

// Read is the text of at most most bytes that b begins by, and how many bytes it has there, its length's own among them.
func Read(b []byte, most int) (string, int, bool) {
	n, head, is := Get(b)
	// The length is held against what is there ahead of any conversion: it may be beyond every int.
	if !is || n > uint64(len(b)-head) {
		return "", 0, false
	}
	many := int(n)
	if many > most {
		return "", 0, false
	}
	return string(b[head : head+many]), head + many, true
}

// Word is a number as four bytes, the greatest part first.
func Word(n uint32) []byte {
	b := make([]byte, wordBytes)
	for i := range wordBytes {
		b[i] = byte(n >> (byteBits * uint(wordBytes-1-i)))
	}
	return b
}

// Four is the number whose Word b is.
func Four(b []byte) (uint32, bool) {
	if len(b) != wordBytes {
		return 0, false
	}
	var n uint32
	for i := range wordBytes {
		n = n<<byteBits | uint32(b[i])
	}
	return n, true
}
