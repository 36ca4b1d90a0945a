package interval

import (
	"slices"

	"linkwork/api"
	"linkwork/fraction"
	"linkwork/integer"
)

// own returns x in memory of its own, or 0 if x is not valid.
func own(x api.Rat) api.Rat {
	if isZero(x) || !fraction.Valid(x) {
		return api.Rat{}
	}
	return api.Rat{Neg: x.Neg, Num: slices.Clone(x.Num), Den: slices.Clone(x.Den)}
}

// isZero reports whether x is 0.
func isZero(x api.Rat) bool {
	return len(x.Num) == 0
}

// ordered reports whether x <= y. It compares integers, because package fraction would look again
// whether x and y are valid, which takes most of the time for long numbers.
func ordered(x, y api.Rat) bool {
	switch {
	case x.Neg != y.Neg:
		return x.Neg
	case isZero(x) || isZero(y):
		return isZero(x)
	}
	left := integer.Mul(api.Whole{Neg: x.Neg, Mag: x.Num}, api.Whole{Mag: y.Den})
	right := integer.Mul(api.Whole{Neg: y.Neg, Mag: y.Num}, api.Whole{Mag: x.Den})
	return integer.Cmp(left, right) <= 0
}

// side returns 1 if all numbers of a are above 0, -1 if all are below 0, and 0 if a contains 0.
func side(a api.Range) int {
	switch {
	case a.Hi.Neg:
		return -1
	case a.Lo.Neg || isZero(a.Lo):
		return 0
	}
	return 1
}

// inverse returns the interval of all 1 / x, in the memory of a, which does not contain 0.
func inverse(a api.Range) api.Range {
	return api.Range{Lo: over(a.Hi), Hi: over(a.Lo)}
}

// over returns 1 / x, in the memory of x, which is not 0.
func over(x api.Rat) api.Rat {
	return api.Rat{Neg: x.Neg, Num: x.Den, Den: x.Num}
}

// product returns the least interval that contains all x * y.
func product(a, b api.Range) api.Range {
	switch {
	case oneSided(a):
		return stretch(a, b)
	case oneSided(b):
		return stretch(b, a)
	}
	// Both reach from below 0 to 0 or above: only the products show which are farthest out.
	return api.Range{
		Lo: fraction.Min(fraction.Mul(a.Lo, b.Hi), fraction.Mul(a.Hi, b.Lo)),
		Hi: fraction.Max(fraction.Mul(a.Lo, b.Lo), fraction.Mul(a.Hi, b.Hi)),
	}
}

// oneSided reports whether all numbers of a are below 0, or none of them is.
func oneSided(a api.Range) bool {
	return !a.Lo.Neg || a.Hi.Neg
}

// stretch returns the least interval that contains all x * y, for a one-sided a.
func stretch(a, b api.Range) api.Range {
	near, far := a.Lo, a.Hi
	if a.Hi.Neg {
		near, far = a.Hi, a.Lo
	}
	// The far factor takes an end of b farther from 0 than the near one does: that is outwards for
	// a lower end below 0 and an upper end above 0, and inwards for the others.
	low, high := near, far
	if b.Lo.Neg {
		low = far
	}
	if b.Hi.Neg {
		high = near
	}
	x, y := fraction.Mul(low, b.Lo), fraction.Mul(high, b.Hi)
	if a.Hi.Neg {
		x, y = y, x
	}
	return api.Range{Lo: x, Hi: y}
}

// roots returns the least interval that contains the roots of the ends of a, which are not
// below 0, and whose ends are multiples of 2^-bits.
func roots(a api.Range, bits int) api.Range {
	unit := powerOfTwo(bits)
	low, _ := root(a.Lo, unit)
	high, exact := root(a.Hi, unit)
	if !exact {
		high = integer.Add(high, integer.Of(1))
	}
	// As the unit is not 0, there are no errors.
	lo, _ := fraction.From(low, unit)
	hi, _ := fraction.From(high, unit)
	return api.Range{Lo: lo, Hi: hi}
}

// root returns the greatest n for which the square of n / unit is at most x, and whether it is x.
func root(x api.Rat, unit api.Whole) (n api.Whole, exact bool) {
	top, bottom := fraction.Parts(x)
	// The bottom is not 0 and the square not below 0: there are no errors.
	square, rest, _ := integer.Div(integer.Mul(top, integer.Mul(unit, unit)), bottom)
	n, _ = integer.Root(square)
	return n, integer.Sign(rest) == 0 && integer.Cmp(integer.Mul(n, n), square) == 0
}

// powerOfTwo returns 2^n, for n not below 0.
func powerOfTwo(n int) api.Whole {
	const wordBits = 32
	words := make([]uint32, n/wordBits+1)
	words[n/wordBits] = 1 << (n % wordBits)
	return api.Whole{Mag: words}
}
