package sturm

import (
	"slices"

	"linkwork/api"
	"linkwork/fraction"
	"linkwork/integer"
	"linkwork/whole"
)

// element is an element of Sturm's chain: the product of a fraction and a list whose coefficients
// have no common divisor. The divisions are done with the lists, as the fractions are very long.
type element struct {
	factor api.Rat
	list   list
}

// chain returns Sturm's chain that begins with f, which is monic.
func chain(f api.Poly) []api.Poly {
	a, _ := whole.List(f)
	first := element{whole.Ratio(integer.Of(1), last(a)), a}
	all := []api.Poly{whole.Poly(first.list, first.factor)}
	for second := first.derivative(); len(second.list) > 0; {
		all = append(all, whole.Poly(second.list, second.factor))
		first, second = second, first.next(second)
	}
	return all
}

// derivative returns the derivative of e.
func (e element) derivative() element {
	d := make(list, len(e.list)-1)
	for i := range d {
		d[i] = integer.Mul(e.list[i+1], integer.Of(i+1))
	}
	return e.times(d, integer.Of(1))
}

// next returns the rest of the division of e by b, which is not 0, with all signs changed.
func (e element) next(b element) element {
	r, grown := rest(e.list, b.list)
	return e.times(r, integer.Neg(grown))
}

// times returns the factor of e times a / d, for d other than 0.
func (e element) times(a list, d api.Whole) element {
	a, common := whole.Primitive(a)
	return element{fraction.Mul(e.factor, whole.Ratio(common, d)), a}
}

// rest returns r, which is shorter than b, and a number that is not 0, which times a is a product of
// b plus r. b is not empty.
func rest(a, b list) (r list, grown api.Whole) {
	r, grown = slices.Clone(a), integer.Of(1)
	end := last(b)
	for len(r) >= len(b) {
		top, shift := last(r), len(r)-len(b)
		for i := range r {
			r[i] = integer.Mul(r[i], end)
		}
		for i, c := range b {
			r[shift+i] = integer.Sub(r[shift+i], integer.Mul(top, c))
		}
		r, grown = whole.Cut(r), integer.Mul(grown, end)
	}
	return r, grown
}

// last returns the last coefficient of a, which is not empty.
func last(a list) api.Whole {
	return a[len(a)-1]
}
