package sturm

import (
	"linkwork/api"
	"linkwork/integer"
	"linkwork/interval"
	"linkwork/whole"
)

// stretch is a polynomial without multiple roots on an interval that is no point, by its Bernstein
// coefficients there times some integer above 0. The first and the last one have the signs of the
// values at the ends. The number of their changes of sign, zeros left out, is the number of roots
// strictly inside of the interval, or greater by an even number (Descartes), and is 0 or 1 if the
// interval is short enough (Vincent).
type stretch struct {
	span         api.Range
	coefficients []api.Whole
}

// over returns a on an interval that is no point.
func (a list) over(span api.Range) stretch {
	low, high, unit := whole.Ends(span)
	// The coefficients with the binomials, by which they are counted, are those of the sum over all
	// terms c x^i of c (low + high y)^i (unit + unit y)^(n - i).
	n := len(a) - 1
	sum, power := []api.Whole{a[n]}, []api.Whole{integer.Of(1)}
	for i := n - 1; i >= 0; i-- {
		sum, power = timesLine(sum, low, high), timesLine(power, unit, unit)
		for k, x := range power {
			sum[k] = integer.Add(sum[k], integer.Mul(a[i], x))
		}
	}
	for k, weight := range weights(n) {
		sum[k] = integer.Mul(sum[k], weight)
	}
	return stretch{span, sum}
}

// timesLine returns the coefficients of the product of a polynomial and x + y times its variable.
func timesLine(a []api.Whole, x, y api.Whole) []api.Whole {
	c := make([]api.Whole, len(a)+1)
	for i, z := range a {
		c[i] = integer.Add(c[i], integer.Mul(z, x))
		c[i+1] = integer.Mul(z, y)
	}
	return c
}

// weights returns the least common multiple of the binomials of n, divided by each one of them.
func weights(n int) []api.Whole {
	all, common := make([]api.Whole, n+1), integer.Of(1)
	for k, binomial := 0, integer.Of(1); k <= n; k++ {
		all[k], common = binomial, whole.Multiple(common, binomial)
		binomial = whole.Quotient(integer.Mul(binomial, integer.Of(n-k)), integer.Of(k+1))
	}
	for k, binomial := range all {
		all[k] = whole.Quotient(common, binomial)
	}
	return all
}

// startsAtRoot reports whether the lower end is a root.
func (s stretch) startsAtRoot() bool {
	return whole.IsZero(s.coefficients[0])
}

// endsAtRoot reports whether the upper end is a root.
func (s stretch) endsAtRoot() bool {
	return whole.IsZero(s.coefficients[len(s.coefficients)-1])
}

// changes returns the number of changes of sign of the coefficients.
func (s stretch) changes() int {
	n, before := 0, 0
	for _, c := range s.coefficients {
		sign := integer.Sign(c)
		if sign*before < 0 {
			n++
		}
		if sign != 0 {
			before = sign
		}
	}
	return n
}

// halves returns the lower and the upper half of s.
func (s stretch) halves() (lower, upper stretch) {
	// De Casteljau's rule, with sums in place of means, which are put right by powers of 2.
	n := len(s.coefficients) - 1
	below, above := make([]api.Whole, n+1), make([]api.Whole, n+1)
	sums := make([]api.Whole, n+1)
	copy(sums, s.coefficients)
	for k := n; k >= 0; k-- {
		power := whole.PowerOfTwo(k)
		below[n-k], above[k] = integer.Mul(sums[0], power), integer.Mul(sums[k], power)
		for i := range k {
			sums[i] = integer.Add(sums[i], sums[i+1])
		}
	}
	mid := interval.Mid(s.span)
	return stretch{api.Range{Lo: s.span.Lo, Hi: mid}, below}, stretch{api.Range{Lo: mid, Hi: s.span.Hi}, above}
}

// inside returns the number of roots strictly inside of the interval.
func (s stretch) inside() int {
	n := s.changes()
	if n < 2 {
		return n
	}
	lower, upper := s.halves()
	n = lower.inside() + upper.inside()
	if upper.startsAtRoot() {
		n++
	}
	return n
}

// isolate returns what the search of chapter 6 finds in the interval, but looks for the roots of the
// halves before it counts those of the whole.
func (s stretch) isolate() []api.Range {
	switch n := s.changes(); {
	case n == 0 && s.endsAtRoot():
		// Where the lower end is a root too, the search would go on with halves, up to this point.
		return []api.Range{interval.Point(s.span.Hi)}
	case n == 0:
		return nil
	case n == 1 && !s.startsAtRoot() && !s.endsAtRoot():
		return []api.Range{s.span}
	}
	lower, upper := s.halves()
	found := append(lower.isolate(), upper.isolate()...)
	return joined(s.span, s.startsAtRoot(), s.endsAtRoot(), found)
}

// joined returns the isolating intervals of the roots that are greater than the lower end of an
// interval and at most its upper end, given those that its halves have, and whether its ends are roots.
func joined(span api.Range, startsAtRoot, endsAtRoot bool, found []api.Range) []api.Range {
	switch {
	case len(found) != 1 || startsAtRoot:
		return found
	case endsAtRoot:
		return []api.Range{interval.Point(span.Hi)}
	}
	return []api.Range{span}
}
