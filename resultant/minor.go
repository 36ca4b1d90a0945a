package resultant

import (
	"linkwork/api"
	"linkwork/integer"
	"linkwork/residue"
	"linkwork/whole"
)

// The functions of this file expect polynomials that are not 0, as lists of integer coefficients,
// that of x^0 first.

// determinant returns the resultant of a and b.
func determinant(a, b []api.Whole) api.Whole {
	minors := combine(a, b, 1, func(p residue.Prime, x, y []uint64) []uint64 {
		r, _ := euclid(p, line{rest: x}, line{rest: y})
		return []uint64{r}
	})
	return minors[0]
}

// cofactors returns u, v and the resultant r of a and b with u a + v b = r. They have no common divisor
// but constants, and b is no constant. The degree of u is less than that of b, and that of v less than
// that of a, if this is no constant.
func cofactors(a, b []api.Whole) (u, v []api.Whole, r api.Whole) {
	// By Cramer's rule the coefficients of u and v are minors of Sylvester's matrix.
	all := combine(a, b, len(a)+len(b)+1, func(p residue.Prime, x, y []uint64) []uint64 {
		first := line{x, unit(len(b)), make([]uint64, len(a))}
		second := line{y, make([]uint64, len(b)), unit(len(a))}
		r, end := euclid(p, first, second)
		if r == 0 {
			return nil
		}
		factor := p.Mul(r, p.Inverse(end.rest[0]))
		p.Scale(end.u, factor)
		p.Scale(end.v, factor)
		return append(append(end.u, end.v...), r)
	})
	return whole.Cut(all[:len(b)]), whole.Cut(all[len(b) : len(a)+len(b)]), all[len(a)+len(b)]
}

// unit returns the polynomial 1 with n coefficients.
func unit(n int) []uint64 {
	c := make([]uint64, n)
	c[0] = 1
	return c
}

// combine returns n minors of Sylvester's matrix of a and b. The function returns their rests modulo a
// prime, or nothing for a prime that is of no use to it, from the rests of a and b.
func combine(a, b []api.Whole, n int, rests func(p residue.Prime, a, b []uint64) []uint64) []api.Whole {
	found := residue.Unknown(n)
	// The modulus has to be greater than twice the greatest absolute value.
	least := minorBits(a, b) + 1
	for p := residue.First; integer.Bits(found.Modulus) <= least; p = p.Before() {
		x, y := p.Rests(a), p.Rests(b)
		if len(x) < len(a) || len(y) < len(b) {
			// Here the matrix would be another one.
			continue
		}
		if minors := rests(p, x, y); len(minors) > 0 {
			found.Take(p, minors)
		}
	}
	return found.List
}

// minorBits returns a number of bits such that the absolute values of all minors of Sylvester's matrix
// of a and b are at most 2 to the power of it.
func minorBits(a, b []api.Whole) int {
	// By Hadamard's inequality a minor is at most the product of the lengths of its rows, and these are
	// at most the sums of the absolute values of their elements, which are at least 1.
	return (len(b)-1)*sumBits(a) + (len(a)-1)*sumBits(b)
}

// sumBits returns the number of bits of the sum of the absolute values of a.
func sumBits(a []api.Whole) int {
	sum := api.Whole{}
	for _, c := range a {
		sum = integer.Add(sum, api.Whole{Mag: c.Mag})
	}
	return integer.Bits(sum)
}
