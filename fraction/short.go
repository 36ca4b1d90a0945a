package fraction

import (
	"math/bits"

	"linkwork/api"
	"linkwork/integer"
)

// Most fractions are short: computing with machine numbers saves them most of the time.

// wordBits is the number of bits of a word.
const wordBits = 32

// shortEnd bounds short numbers: a sum of two products of them is an int.
const shortEnd = 1 << (wordBits - 1)

// short is a fraction whose numerator and denominator are short.
type short struct{ n, d int }

// shorts returns two fractions, if both are short.
func shorts(a, b api.Rat) (x, y short, ok bool) {
	if !isShort(a.Num) || !isShort(a.Den) || !isShort(b.Num) || !isShort(b.Den) {
		return short{}, short{}, false
	}
	return shortOf(a), shortOf(b), true
}

// isShort reports whether the number of some words is short.
func isShort(a []uint32) bool {
	return len(a) == 0 || len(a) == 1 && a[0] < shortEnd
}

// shortOf returns a, which is short.
func shortOf(a api.Rat) short {
	switch {
	case len(a.Num) == 0:
		return short{0, 1}
	case a.Neg:
		return short{-int(a.Num[0]), int(a.Den[0])}
	}
	return short{int(a.Num[0]), int(a.Den[0])}
}

// ratio returns n / d, for d other than 0.
func ratio(n, d int) api.Rat {
	if n == 0 {
		return api.Rat{}
	}
	x, y := size(n), size(d)
	g := divisor(x, y)
	return api.Rat{Neg: (n < 0) != (d < 0), Num: split(x / g), Den: split(y / g)}
}

// size returns the absolute value of n.
func size(n int) uint64 {
	if n < 0 {
		// The wraparound of unsigned numbers is right for -2^63 too, whose negative is no int.
		return -uint64(n)
	}
	return uint64(n)
}

// split returns the words of x, which is not 0.
func split(x uint64) []uint32 {
	if x>>wordBits == 0 {
		return []uint32{uint32(x)}
	}
	return []uint32{uint32(x), uint32(x >> wordBits)}
}

// join returns the number of one or two words.
func join(a []uint32) uint64 {
	if len(a) == 1 {
		return uint64(a[0])
	}
	return uint64(a[1])<<wordBits | uint64(a[0])
}

// coprime reports whether two numbers, neither of them 0, have no common divisor but 1.
func coprime(a, b []uint32) bool {
	switch {
	case isOne(a) || isOne(b):
		return true
	case len(a) <= 2 && len(b) <= 2:
		return divisor(join(a), join(b)) == 1
	}
	return isOne(integer.Gcd(api.Whole{Mag: a}, api.Whole{Mag: b}).Mag)
}

// isOne reports whether the number of some words is 1.
func isOne(a []uint32) bool {
	return len(a) == 1 && a[0] == 1
}

// divisor returns the greatest common divisor of x and y, neither of them 0.
func divisor(x, y uint64) uint64 {
	// Halving is quicker than dividing: the twos that both have are put back in the end.
	twos := bits.TrailingZeros64(x | y)
	x >>= bits.TrailingZeros64(x)
	for x != 1 && y != 0 {
		y >>= bits.TrailingZeros64(y)
		if x > y {
			x, y = y, x
		}
		y -= x
	}
	return x << twos
}
