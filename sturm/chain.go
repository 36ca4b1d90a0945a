package sturm

import (
	"slices"

	"linkwork/api"
	"linkwork/fraction"
	"linkwork/integer"
)

// element is an element of Sturm's chain: the product of a fraction and a list whose coefficients
// have no common divisor. The divisions are done with the lists, as the fractions are very long.
type element struct {
	factor api.Rat
	list   list
}

// chain returns Sturm's chain that begins with f, which is monic.
func chain(f api.Poly) []api.Poly {
	a := integers(f)
	first := element{ratio(integer.Of(1), last(a)), a}
	all := []api.Poly{first.poly()}
	for second := first.derivative(); len(second.list) > 0; {
		all = append(all, second.poly())
		first, second = second, first.next(second)
	}
	return all
}

// derivative returns the derivative of e.
func (e element) derivative() element {
	d := make(list, len(e.list)-1)
	for i := range d {
		d[i] = integer.Mul(e.list[i+1], integer.Of(i+1))
	}
	return e.times(d, integer.Of(1))
}

// next returns the rest of the division of e by b, which is not 0, with all signs changed.
func (e element) next(b element) element {
	r, grown := rest(e.list, b.list)
	return e.times(r, integer.Neg(grown))
}

// times returns the factor of e times a / d, for d other than 0.
func (e element) times(a list, d api.Whole) element {
	a, common := primitive(a)
	return element{fraction.Mul(e.factor, ratio(common, d)), a}
}

// poly returns e as a polynomial.
func (e element) poly() api.Poly {
	n, d := fraction.Parts(e.factor)
	p := make(api.Poly, len(e.list))
	for i, c := range e.list {
		if isNull(c) {
			continue
		}
		// As the factor is in lowest terms, only the coefficient and the denominator can have a
		// common divisor.
		common := integer.Gcd(c, d)
		top := integer.Mul(quotient(c, common), n)
		p[i] = api.Rat{Neg: top.Neg, Num: top.Mag, Den: quotient(d, common).Mag}
	}
	return p
}

// rest returns r, which is shorter than b, and a number that is not 0, which times a is a product of
// b plus r. b is not empty.
func rest(a, b list) (r list, grown api.Whole) {
	r, grown = slices.Clone(a), integer.Of(1)
	end := last(b)
	for len(r) >= len(b) {
		top, shift := last(r), len(r)-len(b)
		for i := range r {
			r[i] = integer.Mul(r[i], end)
		}
		for i, c := range b {
			r[shift+i] = integer.Sub(r[shift+i], integer.Mul(top, c))
		}
		r, grown = cut(r), integer.Mul(grown, end)
	}
	return r, grown
}

// primitive returns a list whose coefficients have no common divisor, and an integer, whose product is a.
func primitive(a list) (list, api.Whole) {
	common := api.Whole{}
	for _, c := range a {
		common = integer.Gcd(common, c)
	}
	b := make(list, len(a))
	for i, c := range a {
		b[i] = quotient(c, common)
	}
	return b, common
}

// cut returns a without the zeros at its end.
func cut(a list) list {
	for len(a) > 0 && isNull(last(a)) {
		a = a[:len(a)-1]
	}
	return a
}

// last returns the last coefficient of a, which is not empty.
func last(a list) api.Whole {
	return a[len(a)-1]
}
