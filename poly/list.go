package poly

import (
	"slices"

	"linkwork/api"
	"linkwork/fraction"
	"linkwork/integer"
)

// list is a polynomial with integer coefficients, that of x^0 first; the last one is not 0. Lists
// share memory with one another, and are not changed once they are made. A list is primitive if
// its coefficients have no common divisor but 1 and -1, or if it is empty.
type list []api.Whole

// split returns a primitive list and a fraction whose product is p.
func split(p api.Poly) (list, api.Rat) {
	den := integer.Of(1)
	for _, c := range p {
		if !isZero(c) {
			den = multiple(den, api.Whole{Mag: c.Den})
		}
	}
	a := make(list, len(p))
	for i, c := range p {
		if !isZero(c) {
			a[i] = integer.Mul(api.Whole{Neg: c.Neg, Mag: c.Num}, quotient(den, api.Whole{Mag: c.Den}))
		}
	}
	a, factor := primitive(a)
	return a, ratio(factor, den)
}

// times returns the product of a list and a fraction, which is not 0 unless the list is empty.
func times(a list, f api.Rat) api.Poly {
	n, d := fraction.Parts(f)
	p := make(api.Poly, len(a))
	for i, c := range a {
		if isNull(c) {
			continue
		}
		// As f is in lowest terms, only the coefficient and the denominator have a common divisor.
		common := integer.Gcd(c, d)
		top := integer.Mul(quotient(c, common), n)
		p[i] = api.Rat{Neg: top.Neg, Num: top.Mag, Den: quotient(d, common).Mag}
	}
	return p
}

// monic returns a divided by its last coefficient.
func monic(a list) api.Poly {
	if len(a) == 0 {
		return nil
	}
	return times(a, ratio(integer.Of(1), last(a)))
}

// primitive returns a primitive list and an integer whose product is a.
func primitive(a list) (list, api.Whole) {
	if len(a) == 0 {
		return nil, api.Whole{}
	}
	common, one := api.Whole{}, integer.Of(1)
	for _, c := range a {
		if common = integer.Gcd(common, c); integer.Cmp(common, one) == 0 {
			break
		}
	}
	b := make(list, len(a))
	for i, c := range a {
		b[i] = quotient(c, common)
	}
	return b, common
}

// cut returns a without the zeros at its end.
func cut(a list) list {
	for len(a) > 0 && isNull(last(a)) {
		a = a[:len(a)-1]
	}
	return a
}

// add returns a + b.
func add(a, b list) list {
	if len(a) < len(b) {
		a, b = b, a
	}
	c := slices.Clone(a)
	for i, y := range b {
		c[i] = integer.Add(c[i], y)
	}
	return cut(c)
}

// scale returns a * n.
func scale(a list, n api.Whole) list {
	if isNull(n) {
		return nil
	}
	c := make(list, len(a))
	for i, x := range a {
		c[i] = integer.Mul(x, n)
	}
	return c
}

// mul returns a * b.
func mul(a, b list) list {
	if len(a) == 0 || len(b) == 0 {
		return nil
	}
	c := make(list, len(a)+len(b)-1)
	for i, x := range a {
		for k, y := range b {
			c[i+k] = integer.Add(c[i+k], integer.Mul(x, y))
		}
	}
	return c
}

// divide returns c and r, which is shorter than b, with a * factor = b * c + r, for b other than 0.
// The factor is not 0, and 1 if a is a product of b and another list.
func divide(a, b list) (c, r list, factor api.Whole) {
	factor = integer.Of(1)
	if len(a) < len(b) {
		return nil, a, factor
	}
	r = slices.Clone(a)
	c = make(list, len(a)-len(b)+1)
	for i := len(c) - 1; i >= 0; i-- {
		top := len(b) - 1 + i
		common := integer.Gcd(r[top], last(b))
		// Where the division leaves a rest, all that there is grows by the least factor that helps.
		if grow := quotient(last(b), common); !isUnit(grow) {
			r, c, factor = scale(r, grow), scale(c, grow), integer.Mul(factor, grow)
		}
		c[i] = quotient(r[top], last(b))
		for k, y := range b {
			r[i+k] = integer.Sub(r[i+k], integer.Mul(c[i], y))
		}
	}
	return c, cut(r[:len(b)-1]), factor
}

// derivative returns the derivative of a, which is not 0.
func derivative(a list) list {
	d := make(list, len(a)-1)
	for i := range d {
		d[i] = integer.Mul(a[i+1], integer.Of(i+1))
	}
	return d
}

// within returns a list and an integer above 0 whose quotient is a(b / d), for d above 0.
func within(a, b list, d api.Whole) (c list, den api.Whole) {
	den = integer.Of(1)
	for i, x := range slices.Backward(a) {
		c = add(mul(c, b), cut(list{integer.Mul(x, den)}))
		if i > 0 {
			den = integer.Mul(den, d)
		}
	}
	return c, den
}

// value returns the value of a at x.
func value(a list, x api.Rat) api.Rat {
	n, d := fraction.Parts(x)
	c, den := within(a, cut(list{n}), d)
	if len(c) == 0 {
		return api.Rat{}
	}
	return ratio(c[0], den)
}

// through returns a list and a fraction whose product has the value y[i] at x[i] for all i.
func through(x, y []api.Rat) (list, api.Rat) {
	// Newton's way: what is 0 at all points so far is added as often as the next point needs it.
	var a list
	den, zero := integer.Of(1), list{integer.Of(1)}
	for i := range x {
		gap := fraction.Sub(y[i], over(value(a, x[i]), ratio(den, integer.Of(1))))
		n, d := fraction.Parts(over(gap, value(zero, x[i])))
		common := multiple(den, d)
		a = add(scale(a, quotient(common, den)), scale(zero, integer.Mul(n, quotient(common, d))))
		den = common
		n, d = fraction.Parts(x[i])
		zero = mul(zero, list{integer.Neg(n), d})
	}
	return a, ratio(integer.Of(1), den)
}

// last returns the last coefficient of a, which is not empty.
func last(a list) api.Whole {
	return a[len(a)-1]
}

// isNull reports whether n is 0.
func isNull(n api.Whole) bool {
	return len(n.Mag) == 0
}

// isUnit reports whether n is 1 or -1.
func isUnit(n api.Whole) bool {
	return len(n.Mag) == 1 && n.Mag[0] == 1
}

// quotient returns a / b, for b other than 0 that divides a.
func quotient(a, b api.Whole) api.Whole {
	// As b is not 0, there is no error.
	q, _, _ := integer.Div(a, b)
	return q
}

// multiple returns the least common multiple of a and b, which are above 0.
func multiple(a, b api.Whole) api.Whole {
	return integer.Mul(quotient(a, integer.Gcd(a, b)), b)
}

// ratio returns n / d, for d other than 0.
func ratio(n, d api.Whole) api.Rat {
	// As d is not 0, there is no error.
	x, _ := fraction.From(n, d)
	return x
}

// over returns x / y, for y other than 0.
func over(x, y api.Rat) api.Rat {
	// As y is not 0, there is no error.
	q, _ := fraction.Div(x, y)
	return q
}
