package integer

import (
	"math/bits"
	"slices"
)

// divide returns the quotient and the rest of a and b, which is not 0.
func divide(a, b []uint32) (q, r []uint32) {
	switch {
	case compare(a, b) < 0:
		return nil, slices.Clone(a)
	case len(a) <= 2:
		x, y := low(a), low(b)
		return split(x / y), split(x % y)
	case len(b) == 1:
		q = slices.Clone(a)
		rest := divideWord(q, b[0])
		return trim(q), split(uint64(rest))
	}
	return divideLong(a, b)
}

// divideWord divides a by x in place and returns the rest.
func divideWord(a []uint32, x uint32) uint32 {
	rest := uint64(0)
	for i := len(a) - 1; i >= 0; i-- {
		rest = rest<<wordBits | uint64(a[i])
		a[i] = uint32(rest / uint64(x))
		rest %= uint64(x)
	}
	return uint32(rest)
}

// divideLong divides word by word, as on paper; b has at least two words.
func divideLong(a, b []uint32) (q, r []uint32) {
	// With the top bit of b set, a word of the quotient can be guessed from the top words.
	shift := bits.LeadingZeros32(b[len(b)-1])
	u := shiftUp(a, shift)
	v := trim(shiftUp(b, shift))
	q = make([]uint32, len(u)-len(v))
	for i := len(q) - 1; i >= 0; i-- {
		part := u[i : i+len(v)+1]
		q[i] = takeTimes(part, v, guess(part, v))
	}
	return trim(q), shiftDown(u, shift)
}

// guess returns the quotient of u and v, or one more. The quotient is a word; u has a word more than v.
func guess(u, v []uint32) uint64 {
	n := len(v)
	top := uint64(u[n])<<wordBits | uint64(u[n-1])
	x := top / uint64(v[n-1])
	rest := top % uint64(v[n-1])
	// The second word of v decides about a guess that is too great, while the rest is a word.
	for rest <= wordMask && (x > wordMask || x*uint64(v[n-2]) > rest<<wordBits|uint64(u[n-2])) {
		x--
		rest += uint64(v[n-1])
	}
	return x
}

// takeTimes takes v * x from u and returns x, or one less if x was one too great.
func takeTimes(u, v []uint32, x uint64) uint32 {
	carry, borrow := uint64(0), uint64(0)
	for i, y := range v {
		carry += x * uint64(y)
		d := uint64(u[i]) - carry&wordMask - borrow
		u[i] = uint32(d)
		borrow = d >> 63
		carry >>= wordBits
	}
	d := uint64(u[len(v)]) - carry - borrow
	u[len(v)] = uint32(d)
	if d>>63 == 0 {
		return uint32(x)
	}
	u[len(v)] += addTimes(u[:len(v)], v, 1)
	return uint32(x - 1)
}
