package poly

import (
	"math/bits"

	"linkwork/api"
)

// prime is a prime number from 11 to firstPrime, modulo which is computed: a product of two rests
// and one rest more are a uint64 then. Lists of rests are like lists of integers.
type prime uint64

// firstPrime is the greatest prime that is used.
const firstPrime prime = 1<<31 - 1

// before returns the next prime below p.
func (p prime) before() prime {
	for p -= 2; !p.holds(); p -= 2 {
	}
	return p
}

// holds reports whether p, an odd number, is a prime.
func (p prime) holds() bool {
	// The test of Miller and Rabin, with these bases a proof for all numbers below 3215031751.
	return p.passes(2) && p.passes(3) && p.passes(5) && p.passes(7)
}

// passes reports whether the powers of the base, each one the square of the one before it, become 1
// as they do for a prime: from the first one on, or by -1.
func (p prime) passes(base uint64) bool {
	twos := bits.TrailingZeros64(uint64(p - 1))
	x := p.power(base, uint64(p-1)>>twos)
	if x == 1 {
		return true
	}
	for range twos {
		if x == uint64(p-1) {
			return true
		}
		x = x * x % uint64(p)
	}
	return false
}

// power returns x^n.
func (p prime) power(x, n uint64) uint64 {
	y := uint64(1)
	for ; n > 0; n >>= 1 {
		if n&1 == 1 {
			y = y * x % uint64(p)
		}
		x = x * x % uint64(p)
	}
	return y
}

// inverse returns 1 / x, for x other than 0.
func (p prime) inverse(x uint64) uint64 {
	return p.power(x, uint64(p-2))
}

// sub returns x - y.
func (p prime) sub(x, y uint64) uint64 {
	return (x + uint64(p) - y) % uint64(p)
}

// rest returns the rest of n.
func (p prime) rest(n api.Whole) uint64 {
	const wordBits = 32
	rest := uint64(0)
	for i := len(n.Mag) - 1; i >= 0; i-- {
		rest = (rest<<wordBits | uint64(n.Mag[i])) % uint64(p)
	}
	if n.Neg {
		return p.sub(0, rest)
	}
	return rest
}

// rests returns the rests of a.
func (p prime) rests(a list) []uint64 {
	c := make([]uint64, len(a))
	for i, x := range a {
		c[i] = p.rest(x)
	}
	return lower(c)
}

// lower returns a without the zeros at its end.
func lower(a []uint64) []uint64 {
	for len(a) > 0 && a[len(a)-1] == 0 {
		a = a[:len(a)-1]
	}
	return a
}

// divisor returns the greatest common divisor of a and b that has the given last coefficient, in the
// memory of a or b. Not both of them are empty.
func (p prime) divisor(a, b []uint64, end uint64) []uint64 {
	for len(b) > 0 {
		a, b = b, p.remainder(a, b)
	}
	factor := end * p.inverse(a[len(a)-1]) % uint64(p)
	for i, x := range a {
		a[i] = x * factor % uint64(p)
	}
	return a
}

// remainder returns the rest of the division of a by b, which is not empty, in the memory of a.
func (p prime) remainder(a, b []uint64) []uint64 {
	inverse := p.inverse(b[len(b)-1])
	for len(a) >= len(b) {
		factor := p.sub(0, a[len(a)-1]*inverse%uint64(p))
		part := a[len(a)-len(b):]
		for i, x := range b {
			part[i] = (part[i] + factor*x) % uint64(p)
		}
		a = lower(a)
	}
	return a
}
