package sturm

import (
	"linkwork/api"
	"linkwork/fraction"
	"linkwork/integer"
	"linkwork/interval"
	"linkwork/whole"
)

// list is a polynomial with integer coefficients, that of x^0 first; the last one is not 0. It has
// no multiple roots, but for those in chain.go. Lists share memory with one another, and are not
// changed once they are made.
type list []api.Whole

// count returns the number of roots that are greater than lo and at most hi.
func (a list) count(lo, hi api.Rat) int {
	// Beyond the reach there are no roots, only longer numbers.
	end := whole.Reach(a)
	lo, hi = fraction.Max(lo, fraction.Neg(end)), fraction.Min(hi, end)
	if fraction.Cmp(lo, hi) >= 0 {
		return 0
	}
	s := a.over(api.Range{Lo: lo, Hi: hi})
	n := s.inside()
	if s.endsAtRoot() {
		n++
	}
	return n
}

// isolates reports whether r is an isolating interval.
func (a list) isolates(r api.Range) bool {
	if !interval.Valid(r) {
		return false
	}
	// Beyond the reach there are neither roots nor other signs, only longer numbers.
	end := whole.Reach(a)
	r, err := interval.Meet(r, api.Range{Lo: fraction.Neg(end), Hi: end})
	if err != nil {
		return false
	}
	lo, hi, unit := whole.Ends(r)
	before, after := whole.Sign(a, lo, unit), whole.Sign(a, hi, unit)
	if integer.Cmp(lo, hi) == 0 {
		return before == 0
	}
	return before*after < 0 && a.count(r.Lo, r.Hi) == 1
}

// isolate returns an isolating interval for each root, as the search of chapter 6 finds them from
// -end to end. All roots are between these.
func (a list) isolate(end api.Rat) []api.Range {
	near, zero := whole.Reach(a), api.Rat{}
	below := a.over(api.Range{Lo: fraction.Neg(near), Hi: zero}).isolate()
	above := a.over(api.Range{Lo: zero, Hi: near}).isolate()
	// Both near and end are powers of 2 beyond all roots. From either one the search finds the same,
	// but for where there is only one root: there it ends at once.
	least, atZero := fraction.Neg(end), whole.IsZero(a[0])
	below = joined(api.Range{Lo: least, Hi: zero}, false, atZero, below)
	above = joined(api.Range{Lo: zero, Hi: end}, atZero, false, above)
	return joined(api.Range{Lo: least, Hi: end}, false, false, append(below, above...))
}

// refine returns an isolating interval of the root in r, which is one, that is at most 2^-bits wide.
func (a list) refine(r api.Range, bits int) api.Range {
	lo, hi, unit := whole.Ends(r)
	before := whole.Sign(a, lo, unit)
	// As the denominator is doubled in each step, the gap between the numerators remains the same.
	gap := integer.Sub(hi, lo)
	for least := integer.Mul(gap, whole.PowerOfTwo(bits)); integer.Cmp(least, unit) > 0; {
		lo, unit = integer.Add(lo, lo), integer.Add(unit, unit)
		mid := integer.Add(lo, gap)
		switch whole.Sign(a, mid, unit) {
		case 0:
			return interval.Point(whole.Ratio(mid, unit))
		case before:
			lo = mid
		}
	}
	return api.Range{Lo: whole.Ratio(lo, unit), Hi: whole.Ratio(integer.Add(lo, gap), unit)}
}
