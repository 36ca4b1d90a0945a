package integer

import "math/bits"

// wordBits is the number of bits of a word, wordMask the greatest word.
const (
	wordBits = 32
	wordMask = 1<<wordBits - 1
)

// trim cuts off the words 0 at the end.
func trim(a []uint32) []uint32 {
	for len(a) > 0 && a[len(a)-1] == 0 {
		a = a[:len(a)-1]
	}
	return a
}

// word returns the word i of a, which goes on with words 0.
func word(a []uint32, i int) uint64 {
	if i < 0 || i >= len(a) {
		return 0
	}
	return uint64(a[i])
}

// low returns the number of the lowest two words.
func low(a []uint32) uint64 {
	return word(a, 1)<<wordBits | word(a, 0)
}

// split returns the words of x.
func split(x uint64) []uint32 {
	return trim([]uint32{uint32(x), uint32(x >> wordBits)})
}

// bitsOf returns the number of bits of a.
func bitsOf(a []uint32) int {
	if len(a) == 0 {
		return 0
	}
	return (len(a)-1)*wordBits + bits.Len32(a[len(a)-1])
}

// compare returns the sign of a - b.
func compare(a, b []uint32) int {
	if len(a) != len(b) {
		if len(a) < len(b) {
			return -1
		}
		return 1
	}
	for i := len(a) - 1; i >= 0; i-- {
		if a[i] != b[i] {
			if a[i] < b[i] {
				return -1
			}
			return 1
		}
	}
	return 0
}

// add returns a + b.
func add(a, b []uint32) []uint32 {
	if len(a) < len(b) {
		a, b = b, a
	}
	c := make([]uint32, len(a)+1)
	carry := uint64(0)
	for i, x := range a {
		carry += uint64(x) + word(b, i)
		c[i] = uint32(carry)
		carry >>= wordBits
	}
	c[len(a)] = uint32(carry)
	return trim(c)
}

// subtract returns a - b, for b at most a.
func subtract(a, b []uint32) []uint32 {
	c := make([]uint32, len(a))
	borrow := uint64(0)
	for i, x := range a {
		d := uint64(x) - word(b, i) - borrow
		c[i] = uint32(d)
		borrow = d >> 63
	}
	return trim(c)
}

// multiply returns a * b.
func multiply(a, b []uint32) []uint32 {
	c := make([]uint32, len(a)+len(b))
	for i, x := range a {
		c[i+len(b)] = addTimes(c[i:i+len(b)], b, x)
	}
	return trim(c)
}

// addTimes adds b * x to c, which is as long as b, and returns what is carried.
func addTimes(c, b []uint32, x uint32) uint32 {
	// The greatest sum is (2^32-1)^2 + 2 * (2^32-1) = 2^64-1: it never overflows.
	carry := uint64(0)
	for i, y := range b {
		carry += uint64(x)*uint64(y) + uint64(c[i])
		c[i] = uint32(carry)
		carry >>= wordBits
	}
	return uint32(carry)
}

// shiftUp returns a * 2^n in len(a) + n/32 + 1 words, which are not trimmed.
func shiftUp(a []uint32, n int) []uint32 {
	whole, part := n/wordBits, n%wordBits
	c := make([]uint32, len(a)+whole+1)
	for i := range len(a) + 1 {
		c[i+whole] = uint32(word(a, i)<<part | word(a, i-1)>>(wordBits-part))
	}
	return c
}

// shiftDown returns a / 2^n without its fraction.
func shiftDown(a []uint32, n int) []uint32 {
	whole, part := n/wordBits, n%wordBits
	if whole >= len(a) {
		return nil
	}
	c := make([]uint32, len(a)-whole)
	for i := range c {
		c[i] = uint32(word(a, i+whole)>>part | word(a, i+whole+1)<<(wordBits-part))
	}
	return trim(c)
}
