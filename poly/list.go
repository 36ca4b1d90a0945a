package poly

import (
	"slices"

	"linkwork/api"
	"linkwork/fraction"
	"linkwork/integer"
	"linkwork/whole"
)

// list is a polynomial with integer coefficients, that of x^0 first; the last one is not 0. Lists
// share memory with one another, and are not changed once they are made. A list is primitive if
// its coefficients have no common divisor but 1 and -1, or if it is empty.
type list []api.Whole

// monic returns a divided by its last coefficient.
func monic(a list) api.Poly {
	if len(a) == 0 {
		return nil
	}
	return whole.Poly(a, whole.Ratio(integer.Of(1), last(a)))
}

// add returns a + b.
func add(a, b list) list {
	if len(a) < len(b) {
		a, b = b, a
	}
	c := slices.Clone(a)
	for i, y := range b {
		c[i] = integer.Add(c[i], y)
	}
	return whole.Cut(c)
}

// scale returns a * n.
func scale(a list, n api.Whole) list {
	if whole.IsZero(n) {
		return nil
	}
	c := make(list, len(a))
	for i, x := range a {
		c[i] = integer.Mul(x, n)
	}
	return c
}

// mul returns a * b.
func mul(a, b list) list {
	if len(a) == 0 || len(b) == 0 {
		return nil
	}
	c := make(list, len(a)+len(b)-1)
	for i, x := range a {
		for k, y := range b {
			c[i+k] = integer.Add(c[i+k], integer.Mul(x, y))
		}
	}
	return c
}

// divide returns c and r, which is shorter than b, with a * factor = b * c + r, for b other than 0.
// The factor is not 0, and 1 if a is a product of b and another list.
func divide(a, b list) (c, r list, factor api.Whole) {
	factor = integer.Of(1)
	if len(a) < len(b) {
		return nil, a, factor
	}
	r = slices.Clone(a)
	c = make(list, len(a)-len(b)+1)
	for i := len(c) - 1; i >= 0; i-- {
		top := len(b) - 1 + i
		common := integer.Gcd(r[top], last(b))
		// Where the division leaves a rest, all that there is grows by the least factor that helps.
		if grow := whole.Quotient(last(b), common); !isUnit(grow) {
			r, c, factor = scale(r, grow), scale(c, grow), integer.Mul(factor, grow)
		}
		c[i] = whole.Quotient(r[top], last(b))
		for k, y := range b {
			r[i+k] = integer.Sub(r[i+k], integer.Mul(c[i], y))
		}
	}
	return c, whole.Cut(r[:len(b)-1]), factor
}

// derivative returns the derivative of a, which is not 0.
func derivative(a list) list {
	d := make(list, len(a)-1)
	for i := range d {
		d[i] = integer.Mul(a[i+1], integer.Of(i+1))
	}
	return d
}

// within returns a list and an integer above 0 whose quotient is a(b / d), for d above 0.
func within(a, b list, d api.Whole) (c list, den api.Whole) {
	den = integer.Of(1)
	for i, x := range slices.Backward(a) {
		c = add(mul(c, b), whole.Cut(list{integer.Mul(x, den)}))
		if i > 0 {
			den = integer.Mul(den, d)
		}
	}
	return c, den
}

// value returns the value of a at x.
func value(a list, x api.Rat) api.Rat {
	n, d := fraction.Parts(x)
	c, den := within(a, whole.Cut(list{n}), d)
	if len(c) == 0 {
		return api.Rat{}
	}
	return whole.Ratio(c[0], den)
}

// through returns a list and a fraction whose product has the value y[i] at x[i] for all i.
func through(x, y []api.Rat) (list, api.Rat) {
	// Newton's way: what is 0 at all points so far is added as often as the next point needs it.
	var a list
	den, zero := integer.Of(1), list{integer.Of(1)}
	for i := range x {
		gap := fraction.Sub(y[i], over(value(a, x[i]), whole.Ratio(den, integer.Of(1))))
		n, d := fraction.Parts(over(gap, value(zero, x[i])))
		common := whole.Multiple(den, d)
		a = add(scale(a, whole.Quotient(common, den)), scale(zero, integer.Mul(n, whole.Quotient(common, d))))
		den = common
		n, d = fraction.Parts(x[i])
		zero = mul(zero, list{integer.Neg(n), d})
	}
	return a, whole.Ratio(integer.Of(1), den)
}

// last returns the last coefficient of a, which is not empty.
func last(a list) api.Whole {
	return a[len(a)-1]
}

// isUnit reports whether n is 1 or -1.
func isUnit(n api.Whole) bool {
	return len(n.Mag) == 1 && n.Mag[0] == 1
}

// over returns x / y, for y other than 0.
func over(x, y api.Rat) api.Rat {
	// As y is not 0, there is no error.
	q, _ := fraction.Div(x, y)
	return q
}
