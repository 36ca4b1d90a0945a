package integer

import (
	"math/bits"
	"slices"
)

// divisor returns the greatest common divisor of a and b.
func divisor(a, b []uint32) []uint32 {
	if compare(a, b) < 0 {
		a, b = b, a
	}
	for len(b) > 2 {
		s := foresee(a, b)
		if s.v0 == 0 {
			_, rest := divide(a, b)
			a, b = b, rest
			continue
		}
		a, b = s.apply(a, b)
	}
	if len(b) == 0 {
		return slices.Clone(a)
	}
	_, rest := divide(a, b)
	return split(smallDivisor(low(b), low(rest)))
}

// smallDivisor returns the greatest common divisor of x and y.
func smallDivisor(x, y uint64) uint64 {
	for y != 0 {
		x, y = y, x%y
	}
	return x
}

// steps are some steps of Euclid's algorithm at once. They lead from a and b to
// u0 a - v0 b and v1 b - u1 a, or, if odd, to the negatives of these.
type steps struct {
	u0, u1, v0, v1 uint64
	odd            bool
}

// foresee returns steps that the leading 64 bits of a decide about, with the bits of b at the
// same places, so that the long numbers are gone through once for many steps (Lehmer). The
// steps are surely right as long as Collins' condition holds, by which the loop goes on; the
// factors u0 to v1 are then below 2^32. If v0 is 0, there are no steps. a is at least b.
func foresee(a, b []uint32) steps {
	x, y := leading(a, a), leading(b, a)
	u0, u1, u2 := uint64(0), uint64(1), uint64(0)
	v0, v1, v2 := uint64(0), uint64(0), uint64(1)
	odd := true
	for y >= v2 && x-y >= v1+v2 {
		q := x / y
		x, y = y, x%y
		u0, u1, u2 = u1, u2, u1+q*u2
		v0, v1, v2 = v1, v2, v1+q*v2
		odd = !odd
	}
	return steps{u0, u1, v0, v1, odd}
}

// leading returns the bits of a at the places of the leading 64 bits of long.
func leading(a, long []uint32) uint64 {
	n := len(long)
	shift := bits.LeadingZeros32(long[n-1])
	top := word(a, n-1)<<wordBits | word(a, n-2)
	return top<<shift | word(a, n-3)>>(wordBits-shift)
}

// apply returns where the steps lead.
func (s steps) apply(a, b []uint32) (x, y []uint32) {
	if s.odd {
		return difference(b, s.v0, a, s.u0), difference(a, s.u1, b, s.v1)
	}
	return difference(a, s.u0, b, s.v0), difference(b, s.v1, a, s.u1)
}

// difference returns a x - b y, which is not below 0 and has no more words than a or b.
// x and y are below 2^32.
func difference(a []uint32, x uint64, b []uint32, y uint64) []uint32 {
	c := make([]uint32, max(len(a), len(b)))
	carryA, carryB, borrow := uint64(0), uint64(0), uint64(0)
	for i := range c {
		carryA += x * word(a, i)
		carryB += y * word(b, i)
		d := carryA&wordMask - carryB&wordMask - borrow
		c[i] = uint32(d)
		borrow = d >> 63
		carryA >>= wordBits
		carryB >>= wordBits
	}
	return trim(c)
}
