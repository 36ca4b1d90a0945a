package whole

import (
	"slices"

	"linkwork/api"
	"linkwork/fraction"
	"linkwork/integer"
)

// The functions of this file treat a polynomial as the list of its coefficients, that of x^0 first,
// if these are integers.

// List returns p times the least number above 0 that makes all coefficients integers, and this number.
func List(p api.Poly) (a []api.Whole, den api.Whole) {
	den = integer.Of(1)
	for _, c := range p {
		if len(c.Den) > 0 {
			den = Multiple(den, api.Whole{Mag: c.Den})
		}
	}
	a = make([]api.Whole, len(p))
	for i, c := range p {
		if len(c.Num) > 0 {
			a[i] = integer.Mul(api.Whole{Neg: c.Neg, Mag: c.Num}, Quotient(den, api.Whole{Mag: c.Den}))
		}
	}
	return a, den
}

// Poly returns the polynomial of a times x, whose coefficients have memory of their own.
func Poly(a []api.Whole, x api.Rat) api.Poly {
	n, d := fraction.Parts(x)
	p := make(api.Poly, len(a))
	for i, c := range a {
		if IsZero(c) {
			continue
		}
		// As x is in lowest terms, only the coefficient and the denominator can have a common divisor.
		common := integer.Gcd(c, d)
		top := integer.Mul(Quotient(c, common), n)
		p[i] = api.Rat{Neg: top.Neg, Num: top.Mag, Den: Quotient(d, common).Mag}
	}
	return p
}

// Primitive returns a list whose coefficients have no common divisor, and an integer, whose product is
// a. Of the empty list they are the empty list and 0.
func Primitive(a []api.Whole) (b []api.Whole, common api.Whole) {
	one := integer.Of(1)
	for _, c := range a {
		if common = integer.Gcd(common, c); integer.Cmp(common, one) == 0 {
			break
		}
	}
	b = make([]api.Whole, len(a))
	for i, c := range a {
		b[i] = Quotient(c, common)
	}
	return b, common
}

// Split returns a list whose coefficients have no common divisor, and a fraction, whose product is p.
// Of the empty list they are the empty list and 0.
func Split(p api.Poly) (a []api.Whole, factor api.Rat) {
	all, den := List(p)
	a, common := Primitive(all)
	return a, Ratio(common, den)
}

// Cut returns a without the zeros at its end.
func Cut(a []api.Whole) []api.Whole {
	for len(a) > 0 && IsZero(a[len(a)-1]) {
		a = a[:len(a)-1]
	}
	return a
}

// Value returns the value of a at n / d as a numerator and a denominator, which is d to the power of
// the degree. They may have common divisors.
func Value(a []api.Whole, n, d api.Whole) (top, bottom api.Whole) {
	bottom = integer.Of(1)
	for i, c := range slices.Backward(a) {
		top = integer.Add(integer.Mul(top, n), integer.Mul(c, bottom))
		if i > 0 {
			bottom = integer.Mul(bottom, d)
		}
	}
	return top, bottom
}

// Sign returns the sign of the value of a at n / d, for d above 0.
func Sign(a []api.Whole, n, d api.Whole) int {
	top, _ := Value(a, n, d)
	return integer.Sign(top)
}

// Reach returns a power of 2, at least 2, such that all roots of a, real or not, are nearer to 0. The
// last coefficient is not 0. Unlike sturm.Bound it grows with the roots, not with the coefficients.
func Reach(a []api.Whole) api.Rat {
	// If each |a[n-i]| < |a[n]| 2^(i k), then the other terms at a distance of at least 2^(k+1) from 0
	// are less than 1/2, 1/4, .. of the last one, which they cannot cancel.
	n, k := len(a)-1, 0
	for i := 1; i <= n; i++ {
		excess := integer.Bits(a[n-i]) - integer.Bits(a[n]) + 1
		k = max(k, (excess+i-1)/i)
	}
	return Ratio(PowerOfTwo(k+1), integer.Of(1))
}
