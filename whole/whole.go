// Package whole has what several layers compute with integers. It is no layer: the functions expect
// arguments that are valid, and may share memory with them.
package whole

import (
	"linkwork/api"
	"linkwork/fraction"
	"linkwork/integer"
)

// IsZero reports whether n is 0.
func IsZero(n api.Whole) bool {
	return len(n.Mag) == 0
}

// Quotient returns a / b rounded down, for b above 0, or exactly, for b other than 0 that divides a.
func Quotient(a, b api.Whole) api.Whole {
	// As b is not 0, there is no error.
	q, _, _ := integer.Div(a, b)
	return q
}

// Multiple returns the least common multiple of a and b, which are above 0.
func Multiple(a, b api.Whole) api.Whole {
	return integer.Mul(Quotient(a, integer.Gcd(a, b)), b)
}

// Ratio returns n / d, for d other than 0.
func Ratio(n, d api.Whole) api.Rat {
	// As d is not 0, there is no error.
	x, _ := fraction.From(n, d)
	return x
}

// PowerOfTwo returns 2^n, for n not below 0.
func PowerOfTwo(n int) api.Whole {
	const wordBits = 32
	words := make([]uint32, n/wordBits+1)
	words[n/wordBits] = 1 << (n % wordBits)
	return api.Whole{Mag: words}
}

// Ends returns the numerators of the ends of r over one denominator, which is above 0.
func Ends(r api.Range) (lo, hi, unit api.Whole) {
	lo, d := fraction.Parts(r.Lo)
	hi, e := fraction.Parts(r.Hi)
	unit = Multiple(d, e)
	return integer.Mul(lo, Quotient(unit, d)), integer.Mul(hi, Quotient(unit, e)), unit
}
