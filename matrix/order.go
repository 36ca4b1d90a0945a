package matrix

import (
	"linkwork/api"
	"linkwork/integer"
	"linkwork/tower"
	"linkwork/whole"
)

// order has the numbers of a tower whose coefficients are integers, if its roots are replaced by
// multiples whose squares are such numbers too. The list of a number has an integer for each product of
// these roots.
type order struct {
	// under are the squares of the roots, without the zeros of those after them.
	under [][]api.Whole
	// units are the factors by which the products of the roots are greater than in the tower.
	units []api.Whole
	// weights are factors for the products of the roots. The size of a list is the sum of the absolute
	// values of its integers times their weights. By their choice the size of a sum is at most the sum
	// of the sizes, and that of a product at most the product of the sizes.
	weights []api.Whole
}

// orderOf returns the order of a tower.
func orderOf(t api.Tower) *order {
	one := integer.Of(1)
	o := &order{units: []api.Whole{one}, weights: []api.Whole{one}}
	for _, d := range t.Roots {
		o.grow(d)
	}
	return o
}

// grow adds the root of d.
func (o *order) grow(d api.Num) {
	// The root times the denominator is the root of the numerator times the denominator. If the
	// denominator is a square, its root will do, and the integers stay shorter.
	coefficients := make(api.Poly, len(d))
	o.spread(coefficients, d)
	square, den := whole.List(coefficients)
	unit, exact := rootUp(den)
	if !exact {
		unit = den
		for i, x := range square {
			square[i] = integer.Mul(x, den)
		}
	}
	// For sizes of products the square of a weight has to be at least the size of the root's square.
	weight, _ := rootUp(o.size(square))
	if whole.IsZero(weight) {
		weight = integer.Of(1)
	}
	o.under = append(o.under, square)
	for i := range o.units {
		o.units = append(o.units, integer.Mul(o.units[i], unit))
		o.weights = append(o.weights, integer.Mul(o.weights[i], weight))
	}
}

// rootUp returns the least integer whose square is at least a, and whether its square is a. a is not
// below 0.
func rootUp(a api.Whole) (root api.Whole, exact bool) {
	// As a is not below 0, there is no error.
	root, _ = integer.Root(a)
	if integer.Cmp(integer.Mul(root, root), a) == 0 {
		return root, true
	}
	return integer.Add(root, integer.Of(1)), false
}

// size returns the size of a list, which may lack zeros at its end.
func (o *order) size(a []api.Whole) api.Whole {
	sum := api.Whole{}
	for i, x := range a {
		if !whole.IsZero(x) {
			sum = integer.Add(sum, integer.Mul(api.Whole{Mag: x.Mag}, o.weights[i]))
		}
	}
	return sum
}

// spread sets the first coefficients, all of them 0, to those of a by the products of the roots. a is a
// number of the tower.
func (o *order) spread(coefficients api.Poly, a api.Num) {
	for i, x := range a {
		if isZero(x) {
			continue
		}
		// As x is in lowest terms, only the numerator and the unit can have a common divisor.
		n, d := api.Whole{Mag: x.Num}, api.Whole{Mag: x.Den}
		common := integer.Gcd(n, o.units[i])
		d = integer.Mul(d, whole.Quotient(o.units[i], common))
		coefficients[i] = api.Rat{Neg: x.Neg, Num: whole.Quotient(n, common).Mag, Den: d.Mag}
	}
}

// number returns the number of the tower that is a list times a factor.
func (o *order) number(a []api.Whole, factor api.Rat) api.Num {
	c := make([]api.Whole, len(a))
	for i, x := range a {
		c[i] = integer.Mul(x, o.units[i])
	}
	return tower.Short(api.Num(whole.Poly(c, factor)))
}
