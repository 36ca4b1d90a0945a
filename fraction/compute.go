package fraction

import (
	"cmp"
	"math/bits"

	"linkwork/api"
	"linkwork/integer"
)

// pair returns the numerator with the sign, and the denominator, in the memory of a.
func pair(a api.Rat) (n, d api.Whole) {
	if len(a.Num) == 0 {
		return api.Whole{}, integer.Of(1)
	}
	return api.Whole{Neg: a.Neg, Mag: a.Num}, api.Whole{Mag: a.Den}
}

// lowest returns n / d, whose memory it keeps. d is above 0, and they have no common divisor.
func lowest(n, d api.Whole) api.Rat {
	if len(n.Mag) == 0 {
		return api.Rat{}
	}
	return api.Rat{Neg: n.Neg, Num: n.Mag, Den: d.Mag}
}

// reduce returns n / d, for d above 0.
func reduce(n, d api.Whole) api.Rat {
	g := integer.Gcd(n, d)
	return lowest(floor(n, g), floor(d, g))
}

// floor returns the greatest integer that is at most n / d, for d above 0.
func floor(n, d api.Whole) api.Whole {
	// Div rounds down, as its rest is not below 0; as d is not 0, there is no error.
	q, _, _ := integer.Div(n, d)
	return q
}

// negative returns -a, in the memory of a.
func negative(a api.Rat) api.Rat {
	a.Neg = len(a.Num) > 0 && !a.Neg
	return a
}

// inverse returns 1 / a, in the memory of a, which is not 0.
func inverse(a api.Rat) api.Rat {
	return api.Rat{Neg: a.Neg, Num: a.Den, Den: a.Num}
}

// compare returns the sign of a - b.
func compare(a, b api.Rat) int {
	if x, y, ok := shorts(a, b); ok {
		return cmp.Compare(x.n*y.d, y.n*x.d)
	}
	n, d := pair(a)
	m, e := pair(b)
	return integer.Cmp(integer.Mul(n, e), integer.Mul(m, d))
}

// plus returns a + b.
func plus(a, b api.Rat) api.Rat {
	if x, y, ok := shorts(a, b); ok {
		return ratio(x.n*y.d+y.n*x.d, x.d*y.d)
	}
	n, d := pair(a)
	m, e := pair(b)
	// What can be cancelled from the sum divides what d and e have in common, which is much
	// shorter than their product.
	g := common(d, e)
	d = cancel(d, g)
	sum := integer.Add(integer.Mul(n, cancel(e, g)), integer.Mul(m, d))
	g = common(sum, g)
	return lowest(cancel(sum, g), integer.Mul(d, cancel(e, g)))
}

// times returns a * b.
func times(a, b api.Rat) api.Rat {
	if x, y, ok := shorts(a, b); ok {
		return ratio(x.n*y.n, x.d*y.d)
	}
	n, d := pair(a)
	m, e := pair(b)
	// Only a numerator and the denominator of the other number can have a common divisor.
	g, h := common(n, e), common(m, d)
	top := integer.Mul(cancel(n, g), cancel(m, h))
	return lowest(top, integer.Mul(cancel(d, h), cancel(e, g)))
}

// common returns the greatest common divisor of a and b.
func common(a, b api.Whole) api.Whole {
	if isOne(a.Mag) || isOne(b.Mag) {
		return integer.Of(1)
	}
	return integer.Gcd(a, b)
}

// cancel returns a / g, perhaps in the memory of a. g is above 0 and divides a.
func cancel(a, g api.Whole) api.Whole {
	if isOne(g.Mag) {
		return a
	}
	return floor(a, g)
}

// raise returns a^n, for n not below 0.
func raise(a api.Whole, n int) api.Whole {
	power := integer.Of(1)
	for i := bits.Len(uint(n)) - 1; i >= 0; i-- {
		power = integer.Mul(power, power)
		if n>>i&1 == 1 {
			power = integer.Mul(power, a)
		}
	}
	return power
}

// powerOfTwo returns 2^n, for n not below 0.
func powerOfTwo(n int) api.Whole {
	words := make([]uint32, n/wordBits+1)
	words[n/wordBits] = 1 << (n % wordBits)
	return api.Whole{Mag: words}
}

// squareRoot returns the root of a that is not below 0, if a is a square.
func squareRoot(a api.Whole) (api.Whole, bool) {
	root, err := integer.Root(a)
	if err != nil || integer.Cmp(integer.Mul(root, root), a) != 0 {
		return api.Whole{}, false
	}
	return root, true
}
