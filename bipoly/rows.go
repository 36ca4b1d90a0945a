package bipoly

import (
	"linkwork/api"
	"linkwork/fraction"
	"linkwork/integer"
	"linkwork/whole"
)

// place returns the place of the exponents i and j among all exponents in the order of the terms.
func place(i, j int) int {
	return places(i+j-1) + i
}

// places returns the number of different exponents of terms whose degree is at most n, which may be
// below 0.
func places(n int) int {
	return (n + 1) * (n + 2) / 2
}

// spread returns the coefficients of p by their places, with zeros, up to the degree n.
func spread(p api.BiPoly, n int) []api.Rat {
	all := make([]api.Rat, places(n))
	for _, t := range p {
		all[place(t.I, t.J)] = t.C
	}
	return all
}

// collect returns the polynomial whose coefficients are given by their places. It keeps their memory.
func collect(all []api.Rat) api.BiPoly {
	var p api.BiPoly
	i, j := 0, 0
	for _, c := range all {
		if !isZero(c) {
			p = append(p, api.Term{I: i, J: j, C: c})
		}
		if j == 0 {
			i, j = 0, i+1
		} else {
			i, j = i+1, j-1
		}
	}
	return p
}

// coefficients returns the coefficients of the terms of p.
func coefficients(p api.BiPoly) []api.Rat {
	all := make([]api.Rat, len(p))
	for k, t := range p {
		all[k] = t.C
	}
	return all
}

// rows returns lists of integers, all of the same length, and a fraction. The list i is the polynomial
// in y that is the coefficient of x^i (or, if byY, the list j the polynomial in x that is the
// coefficient of y^j) in p over the fraction.
func rows(p api.BiPoly, byY bool) (lists [][]api.Whole, factor api.Rat) {
	all, factor := whole.Split(coefficients(p))
	count, length := 0, 0
	for _, t := range p {
		k, l := exponents(t, byY)
		count, length = max(count, k+1), max(length, l+1)
	}
	lists = make([][]api.Whole, count)
	for k := range lists {
		lists[k] = make([]api.Whole, length)
	}
	for i, t := range p {
		k, l := exponents(t, byY)
		lists[k][l] = all[i]
	}
	return lists, factor
}

// exponents returns the exponents of x and y, or, if byY, of y and x.
func exponents(t api.Term, byY bool) (first, second int) {
	if byY {
		return t.J, t.I
	}
	return t.I, t.J
}

// fixed returns a list of integers and a fraction whose product is the polynomial in the other variable
// if y (or, unless isY, x) has the value c.
func fixed(p api.BiPoly, isY bool, c api.Rat) ([]api.Whole, api.Rat) {
	lists, factor := rows(p, !isY)
	n, d := fraction.Parts(c)
	values, bottom := make([]api.Whole, len(lists)), integer.Of(1)
	for k, row := range lists {
		// As all rows have the same length, all values have the same denominator.
		values[k], bottom = whole.Value(row, n, d)
	}
	return whole.Cut(values), fraction.Mul(factor, whole.Ratio(integer.Of(1), bottom))
}
