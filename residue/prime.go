// Package residue computes modulo primes, and finds integers by their rests. It is no layer: the
// functions expect arguments that are valid.
package residue

import (
	"math/bits"

	"linkwork/api"
)

// Prime is a prime number from 11 to First, modulo which is computed: a product of two rests and one
// rest more are a uint64 then. Lists of rests are like the lists of integers of package whole.
type Prime uint64

// First is the greatest prime that is used.
const First Prime = 1<<31 - 1

// Before returns the next prime below p.
func (p Prime) Before() Prime {
	for p -= 2; !p.holds(); p -= 2 {
	}
	return p
}

// holds reports whether p, an odd number, is a prime.
func (p Prime) holds() bool {
	// The test of Miller and Rabin, with these bases a proof for all numbers below 3215031751.
	return p.passes(2) && p.passes(3) && p.passes(5) && p.passes(7)
}

// passes reports whether the powers of the base, each one the square of the one before it, become 1
// as they do for a prime: from the first one on, or by -1.
func (p Prime) passes(base uint64) bool {
	twos := bits.TrailingZeros64(uint64(p - 1))
	x := p.Power(base, uint64(p-1)>>twos)
	if x == 1 {
		return true
	}
	for range twos {
		if x == uint64(p-1) {
			return true
		}
		x = p.Mul(x, x)
	}
	return false
}

// Mul returns x * y.
func (p Prime) Mul(x, y uint64) uint64 {
	return x * y % uint64(p)
}

// Sub returns x - y.
func (p Prime) Sub(x, y uint64) uint64 {
	return (x + uint64(p) - y) % uint64(p)
}

// Power returns x^n.
func (p Prime) Power(x, n uint64) uint64 {
	y := uint64(1)
	for ; n > 0; n >>= 1 {
		if n&1 == 1 {
			y = p.Mul(y, x)
		}
		x = p.Mul(x, x)
	}
	return y
}

// Inverse returns 1 / x, for x other than 0.
func (p Prime) Inverse(x uint64) uint64 {
	return p.Power(x, uint64(p-2))
}

// Rest returns the rest of n.
func (p Prime) Rest(n api.Whole) uint64 {
	const wordBits = 32
	rest := uint64(0)
	for i := len(n.Mag) - 1; i >= 0; i-- {
		rest = (rest<<wordBits | uint64(n.Mag[i])) % uint64(p)
	}
	if n.Neg {
		return p.Sub(0, rest)
	}
	return rest
}

// Rests returns the rests of a without the zeros at their end.
func (p Prime) Rests(a []api.Whole) []uint64 {
	c := make([]uint64, len(a))
	for i, x := range a {
		c[i] = p.Rest(x)
	}
	return Cut(c)
}

// Cut returns a without the zeros at its end.
func Cut(a []uint64) []uint64 {
	for len(a) > 0 && a[len(a)-1] == 0 {
		a = a[:len(a)-1]
	}
	return a
}

// Scale multiplies a by the factor.
func (p Prime) Scale(a []uint64, factor uint64) {
	for i, x := range a {
		a[i] = p.Mul(x, factor)
	}
}

// Take takes the product of b, the factor and x^shift from a, as far as a goes. There b goes as well.
func (p Prime) Take(a, b []uint64, factor uint64, shift int) {
	factor = p.Sub(0, factor)
	for i := shift; i < len(a); i++ {
		a[i] = (a[i] + factor*b[i-shift]) % uint64(p)
	}
}
