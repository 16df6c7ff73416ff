// Package utf divides byte strings into characters: as strict UTF-8, or byte by byte.
package utf

import (
	"lurcher/api"
)

const (
	longest        = 4
	firstSurrogate = 55296
	lastSurrogate  = 57343
)

// lengths are those of the sequences that a first byte announces, by its upper five bits: they tell all kinds of first bytes apart. 0: none.
var lengths = [32]int{
	1, 1, 1, 1, 1, 1, 1, 1, 1, 1, 1, 1, 1, 1, 1, 1,
	0, 0, 0, 0, 0, 0, 0, 0, 2, 2, 2, 2, 3, 3, 4, 0,
}

// heads are what the first byte of a sequence has beside bits of the code point, by the sequence's length.
var heads = [longest + 1]int{0, 0, 192, 224, 240}

// Valid is where the first sequence begins that is none of UTF-8, and whether there is none.
func Valid(b []byte) (int, bool) {
	at := 0
	for at < len(b) {
		_, size := sequence(b, at)
		if size == 0 {
			return at, false
		}
		at += size
	}
	return at, true
}

// Next is the character at an offset, and the offset behind it.
func Next(b []byte, at int, utf bool) (int, int) {
	if at < 0 || at >= len(b) {
		return -1, at
	}
	if utf {
		if c, size := sequence(b, at); size > 0 {
			return c, at + size
		}
	}
	return int(b[at]), at + 1
}

// Prev is the character that ends at an offset, and the offset at which it begins.
func Prev(b []byte, at int, utf bool) (int, int) {
	if at < 1 || at > len(b) {
		return -1, at
	}
	if utf {
		for size := min(longest, at); size > 0; size-- {
			if c, n := sequence(b, at-size); n == size {
				return c, at - size
			}
		}
	}
	return int(b[at-1]), at - 1
}

// Count is how many characters there are.
func Count(b []byte, utf bool) int {
	if !utf {
		return len(b)
	}
	count := 0
	for at := 0; at < len(b); count++ {
		_, at = Next(b, at, utf)
	}
	return count
}

// Edge tells whether an offset is where a character begins, or the end.
func Edge(b []byte, at int, utf bool) bool {
	if at < 0 || at > len(b) {
		return false
	}
	if !utf {
		return true
	}
	// No sequence begins within another one. So each sequence that begins ahead of at begins at an edge, and none but the nearest offsets matter.
	for back := 1; back < longest && back <= at; back++ {
		if _, size := sequence(b, at-back); size > back {
			return false
		}
	}
	return true
}

// Encode is a character's bytes.
func Encode(c int, utf bool) ([]byte, api.Errno) {
	if !utf {
		if c < 0 || c > 255 {
			return nil, api.ErrArg
		}
		return []byte{byte(c)}, api.OK
	}
	size := width(c)
	if size == 0 {
		return nil, api.ErrArg
	}
	out := make([]byte, size)
	for i := range size - 1 {
		out[size-1-i] = byte(128 + c%64)
		c /= 64
	}
	out[0] = byte(heads[size] + c)
	return out, api.OK
}

// sequence is the code point and the length of the sequence that begins at an offset below the length; 0, 0 if none does.
func sequence(b []byte, at int) (int, int) {
	size := lengths[b[at]>>3]
	if size == 0 || size > len(b)-at {
		return 0, 0
	}
	c := int(b[at]) - heads[size]
	for i := range size - 1 {
		x := int(b[at+1+i]) - 128
		if x < 0 || x > 63 {
			return 0, 0
		}
		c = c*64 + x
	}
	// A code point that is spelt too long, or that has no sequence, has another width than it is spelt with.
	if width(c) != size {
		return 0, 0
	}
	return c, size
}

// width is the length of a code point's sequence; 0 if it has none.
func width(c int) int {
	switch {
	case c < 0 || c > api.MaxChar || c >= firstSurrogate && c <= lastSurrogate:
		return 0
	case c < 128:
		return 1
	case c < 2048:
		return 2
	case c < 65536:
		return 3
	}
	return 4
}
