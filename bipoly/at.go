package bipoly

import (
	"slices"

	"linkwork/api"
	"linkwork/fraction"
	"linkwork/integer"
	"linkwork/tower"
	"linkwork/whole"
)

// The functions of this file expect a tower and numbers that have no errors: then the functions of
// package tower that they call have none.

// value returns the value of p at x and y.
func value(t api.Tower, p api.BiPoly, x, y api.Num) api.Num {
	if len(p) == 0 {
		return nil
	}
	lists, factor := rows(p, true)
	all, unit := powers(t, x, len(lists[0]))
	factor = fraction.Mul(factor, unit)
	var sum api.Num
	for _, row := range slices.Backward(lists) {
		sum, _ = tower.Mul(t, sum, y)
		sum, _ = tower.Add(t, sum, api.Num(whole.Poly(weighted(row, all), factor)))
	}
	return sum
}

// powers returns lists of integers, all of the length of a number of the tower, and a fraction: their
// products are the first n powers of x.
func powers(t api.Tower, x api.Num, n int) ([][]api.Whole, api.Rat) {
	// Powers have no roots that x does not have: their lists are not longer.
	width := max(len(x), 1)
	flat := make(api.Poly, n*width)
	power := tower.Of(fraction.Of(1))
	for k := range n {
		if k > 0 {
			power, _ = tower.Mul(t, power, x)
		}
		copy(flat[k*width:], power)
	}
	all, den := whole.List(flat)
	return slices.Collect(slices.Chunk(all, width)), whole.Ratio(integer.Of(1), den)
}

// weighted returns the sum of some lists of the same length, each one times its weight.
func weighted(weights []api.Whole, lists [][]api.Whole) []api.Whole {
	sum := make([]api.Whole, len(lists[0]))
	for k, weight := range weights {
		if whole.IsZero(weight) {
			continue
		}
		for i, x := range lists[k] {
			sum[i] = integer.Add(sum[i], integer.Mul(weight, x))
		}
	}
	return sum
}
