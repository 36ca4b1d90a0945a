package algebraic

import (
	"linkwork/api"
	"linkwork/integer"
	"linkwork/whole"
)

// bracket is an interval around a root of a polynomial: a point, at which the polynomial is 0, or an
// interval at whose ends it has opposite signs. All is computed with integers. Brackets are not
// changed once they are made.
type bracket struct {
	list   []api.Whole // the coefficients of the polynomial
	lo, hi end
	unit   api.Whole // the denominator of both ends
	bits   int       // by how many bits the interval may become shorter at once
}

// end is the end of a bracket, by its numerator, and the numerator of the value of the polynomial
// there, over the same denominator at both ends.
type end struct{ place, value api.Whole }

// bracket returns the interval of x.
func (x root) bracket() bracket {
	lo, hi, unit := whole.Ends(x.span)
	b := bracket{list: x.list, unit: unit, bits: 1}
	b.lo, b.hi = b.end(lo), b.end(hi)
	return b
}

// end returns the end at a place.
func (b bracket) end(place api.Whole) end {
	value, _ := whole.Value(b.list, place, b.unit)
	return end{place, value}
}

// gap returns how far the ends are from one another.
func (b bracket) gap() api.Whole {
	return integer.Sub(b.hi.place, b.lo.place)
}

// within returns the upper end of an interval around the root that is at most 2^-bits wide.
func (b bracket) within(bits int) api.Rat {
	for power := whole.PowerOfTwo(bits); integer.Cmp(integer.Mul(b.gap(), power), b.unit) > 0; {
		b = b.narrower()
	}
	return whole.Ratio(b.hi.place, b.unit)
}

// signOf returns the sign that q has at the root, where it is not 0.
func (b bracket) signOf(q []api.Whole) int {
	for {
		// If q is farther from 0 at one end than its slope can lead up to the other one, it has no
		// root between them.
		value, den := whole.Value(q, b.lo.place, b.unit)
		rise := integer.Mul(b.slope(q), b.gap())
		if integer.Cmp(integer.Mul(size(value), b.unit), integer.Mul(rise, den)) > 0 {
			return integer.Sign(value)
		}
		b = b.narrower()
	}
}

// slope returns a number that the slope of q exceeds nowhere between the ends.
func (b bracket) slope(q []api.Whole) api.Whole {
	far := max(integer.Bits(b.lo.place), integer.Bits(b.hi.place))
	reach := whole.PowerOfTwo(max(0, far-integer.Bits(b.unit)+1))
	slope := api.Whole{}
	for i := len(q) - 1; i > 0; i-- {
		slope = integer.Add(integer.Mul(slope, reach), integer.Mul(size(q[i]), integer.Of(i)))
	}
	return slope
}

// narrower returns a shorter interval with the same root, for an interval that is no point.
func (b bracket) narrower() bracket {
	// The interval is divided into 2^bits parts, and one is taken that a line through the values at
	// the ends leads to. Near the root this is right for twice as many bits at each time (Abbott's
	// quadratic interval refinement); one bit is always right.
	for {
		if part, ok := b.part(); ok {
			part.bits = 2 * b.bits
			return part
		}
		b.bits /= 2
	}
}

// part returns the part of b in which the root is, if it is one of those beside the guessed place.
func (b bracket) part() (part bracket, ok bool) {
	parts, gap := whole.PowerOfTwo(b.bits), b.gap()
	part = bracket{list: b.list, unit: integer.Mul(b.unit, parts)}
	place := integer.Add(integer.Mul(b.lo.place, parts), integer.Mul(gap, b.guess(parts)))
	part.lo = part.end(place)
	part.hi = part.lo
	before, after := integer.Sign(b.lo.value), integer.Sign(b.hi.value)
	switch integer.Sign(part.lo.value) {
	case before:
		part.hi = part.end(integer.Add(place, gap))
	case after:
		part.lo = part.end(integer.Sub(place, gap))
	}
	switch {
	case whole.IsZero(part.lo.value):
		part.hi = part.lo
	case whole.IsZero(part.hi.value):
		part.lo = part.hi
	default:
		return part, integer.Sign(part.lo.value) == before && integer.Sign(part.hi.value) == after
	}
	return part, true
}

// guess returns which of the places between some parts of b, from 1 on, is nearest to where a line
// through the values at the ends is 0.
func (b bracket) guess(parts api.Whole) api.Whole {
	one := integer.Of(1)
	below, sum := size(b.lo.value), integer.Add(size(b.lo.value), size(b.hi.value))
	// Half is added before rounding down.
	twice := integer.Mul(integer.Mul(below, parts), integer.Of(2))
	place := whole.Quotient(integer.Add(twice, sum), integer.Add(sum, sum))
	last := integer.Sub(parts, one)
	switch {
	case whole.IsZero(place):
		return one
	case integer.Cmp(place, last) > 0:
		return last
	}
	return place
}

// size returns the absolute value of n.
func size(n api.Whole) api.Whole {
	return api.Whole{Mag: n.Mag}
}
