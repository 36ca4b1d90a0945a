package sturm

import (
	"slices"

	"linkwork/api"
	"linkwork/fraction"
	"linkwork/integer"
	"linkwork/interval"
)

// list is a polynomial with integer coefficients, that of x^0 first; the last one is not 0. It has
// no multiple roots, but for those in chain.go. Lists share memory with one another, and are not
// changed once they are made.
type list []api.Whole

// integers returns p, which is monic, times the least number that makes it a list.
func integers(p api.Poly) list {
	den := integer.Of(1)
	for _, c := range p {
		if len(c.Den) > 0 {
			den = multiple(den, api.Whole{Mag: c.Den})
		}
	}
	a := make(list, len(p))
	for i, c := range p {
		if len(c.Num) > 0 {
			a[i] = integer.Mul(api.Whole{Neg: c.Neg, Mag: c.Num}, quotient(den, api.Whole{Mag: c.Den}))
		}
	}
	return a
}

// sign returns the sign of the value of a at n / d, for d above 0.
func (a list) sign(n, d api.Whole) int {
	sum, power := api.Whole{}, integer.Of(1)
	for _, c := range slices.Backward(a) {
		sum = integer.Add(integer.Mul(sum, n), integer.Mul(c, power))
		power = integer.Mul(power, d)
	}
	return integer.Sign(sum)
}

// reach returns a power of 2, at least 2, such that all roots, real or not, are nearer to 0. Unlike
// Bound it grows with the roots, not with the coefficients.
func (a list) reach() api.Rat {
	// If each |a[n-i]| < |a[n]| 2^(i k), then the other terms at a distance of at least 2^(k+1) from 0
	// are less than 1/2, 1/4, .. of the last one, which they cannot cancel.
	n, k := len(a)-1, 0
	for i := 1; i <= n; i++ {
		excess := integer.Bits(a[n-i]) - integer.Bits(a[n]) + 1
		k = max(k, (excess+i-1)/i)
	}
	return ratio(powerOfTwo(k+1), integer.Of(1))
}

// count returns the number of roots that are greater than lo and at most hi.
func (a list) count(lo, hi api.Rat) int {
	// Beyond the reach there are no roots, only longer numbers.
	end := a.reach()
	lo, hi = fraction.Max(lo, fraction.Neg(end)), fraction.Min(hi, end)
	if fraction.Cmp(lo, hi) >= 0 {
		return 0
	}
	s := a.over(api.Range{Lo: lo, Hi: hi})
	n := s.inside()
	if s.endsAtRoot() {
		n++
	}
	return n
}

// isolates reports whether r is an isolating interval.
func (a list) isolates(r api.Range) bool {
	if !interval.Valid(r) {
		return false
	}
	lo, hi, unit := parts(r)
	before, after := a.sign(lo, unit), a.sign(hi, unit)
	if integer.Cmp(lo, hi) == 0 {
		return before == 0
	}
	return before*after < 0 && a.count(r.Lo, r.Hi) == 1
}

// parts returns the numerators of the ends of r over one denominator, which is above 0.
func parts(r api.Range) (lo, hi, unit api.Whole) {
	lo, d := fraction.Parts(r.Lo)
	hi, e := fraction.Parts(r.Hi)
	unit = multiple(d, e)
	return integer.Mul(lo, quotient(unit, d)), integer.Mul(hi, quotient(unit, e)), unit
}

// isolate returns an isolating interval for each root, as the search of chapter 6 finds them from
// -end to end. All roots are between these.
func (a list) isolate(end api.Rat) []api.Range {
	near, zero := a.reach(), api.Rat{}
	below := a.over(api.Range{Lo: fraction.Neg(near), Hi: zero}).isolate()
	above := a.over(api.Range{Lo: zero, Hi: near}).isolate()
	// Both near and end are powers of 2 beyond all roots. From either one the search finds the same,
	// but for where there is only one root: there it ends at once.
	least, atZero := fraction.Neg(end), isNull(a[0])
	below = joined(api.Range{Lo: least, Hi: zero}, false, atZero, below)
	above = joined(api.Range{Lo: zero, Hi: end}, atZero, false, above)
	return joined(api.Range{Lo: least, Hi: end}, false, false, append(below, above...))
}

// refine returns an isolating interval of the root in r, which is one, that is at most 2^-bits wide.
func (a list) refine(r api.Range, bits int) api.Range {
	lo, hi, unit := parts(r)
	before := a.sign(lo, unit)
	// As the denominator is doubled in each step, the gap between the numerators remains the same.
	gap := integer.Sub(hi, lo)
	for least := integer.Mul(gap, powerOfTwo(bits)); integer.Cmp(least, unit) > 0; {
		lo, unit = integer.Add(lo, lo), integer.Add(unit, unit)
		mid := integer.Add(lo, gap)
		switch a.sign(mid, unit) {
		case 0:
			return interval.Point(ratio(mid, unit))
		case before:
			lo = mid
		}
	}
	return api.Range{Lo: ratio(lo, unit), Hi: ratio(integer.Add(lo, gap), unit)}
}

// isNull reports whether n is 0.
func isNull(n api.Whole) bool {
	return len(n.Mag) == 0
}

// quotient returns a / b, for b other than 0 that divides a.
func quotient(a, b api.Whole) api.Whole {
	// As b is not 0, there is no error.
	q, _, _ := integer.Div(a, b)
	return q
}

// multiple returns the least common multiple of a and b, which are above 0.
func multiple(a, b api.Whole) api.Whole {
	return integer.Mul(quotient(a, integer.Gcd(a, b)), b)
}

// ratio returns n / d, for d other than 0.
func ratio(n, d api.Whole) api.Rat {
	// As d is not 0, there is no error.
	x, _ := fraction.From(n, d)
	return x
}

// powerOfTwo returns 2^n, for n not below 0.
func powerOfTwo(n int) api.Whole {
	const wordBits = 32
	words := make([]uint32, n/wordBits+1)
	words[n/wordBits] = 1 << (n % wordBits)
	return api.Whole{Mag: words}
}
