package matrix_test

import (
	"math/bits"

	"linkwork/api"
)

// The functions of this file follow the definitions by minors, which are expanded: they divide nothing.

// modelMinors returns the minors of all rows with each set of columns that has as many of them.
func modelMinors(u api.Tower, a [][]api.Num) []api.Num {
	minors := map[int]api.Num{0: num("1")}
	var last []api.Num
	if len(a) == 0 {
		return []api.Num{num("1")}
	}
	for columns := 1; columns < 1<<width(a); columns++ {
		count := bits.OnesCount(uint(columns))
		if count > len(a) {
			continue
		}
		var sum api.Num
		for k, x := range a[count-1] {
			if columns>>k&1 == 0 {
				continue
			}
			part := mul(u, x, minors[columns&^(1<<k)])
			if bits.OnesCount(uint(columns>>(k+1)))%2 == 0 {
				sum = add(u, sum, part)
			} else {
				sum = sub(u, sum, part)
			}
		}
		minors[columns] = sum
		if count == len(a) {
			last = append(last, sum)
		}
	}
	return last
}

// modelDet returns the determinant of a square matrix.
func modelDet(u api.Tower, a [][]api.Num) api.Num {
	return modelMinors(u, a)[0]
}

// modelRank returns the size of the greatest minor whose value is not 0.
func modelRank(u api.Tower, a [][]api.Num) int {
	most := 0
	for chosen := range 1 << len(a) {
		size := bits.OnesCount(uint(chosen))
		if size <= most || size > width(a) {
			continue
		}
		var rows [][]api.Num
		for i, row := range a {
			if chosen>>i&1 == 1 {
				rows = append(rows, row)
			}
		}
		for _, x := range modelMinors(u, rows) {
			if sign(u, x) != 0 {
				most = size
			}
		}
	}
	return most
}

// modelChosen returns the rows that do not depend on the rows before them, and the other ones.
func modelChosen(u api.Tower, a [][]api.Num) (chosen, redundant []int) {
	for i := range a {
		if modelRank(u, a[:i+1]) > len(chosen) {
			chosen = append(chosen, i)
		} else {
			redundant = append(redundant, i)
		}
	}
	return chosen, redundant
}

// modelMul returns the product of a and b, whose rows are as many as a has columns.
func modelMul(u api.Tower, a, b [][]api.Num) [][]api.Num {
	c := make([][]api.Num, len(a))
	for i, row := range a {
		c[i] = make([]api.Num, width(b))
		for k := range c[i] {
			for j, x := range row {
				c[i][k] = add(u, c[i][k], mul(u, x, b[j][k]))
			}
		}
	}
	return c
}

// modelTimes returns a x.
func modelTimes(u api.Tower, a [][]api.Num, x []api.Num) []api.Num {
	c := make([]api.Num, len(a))
	for i, row := range a {
		for k, y := range row {
			c[i] = add(u, c[i], mul(u, y, x[k]))
		}
	}
	return c
}
