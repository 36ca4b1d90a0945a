package matrix

import (
	"slices"

	"linkwork/api"
	"linkwork/integer"
	"linkwork/whole"
)

// rows is a matrix of numbers of an order.
type rows struct {
	*order
	// lists are the lists of the numbers of each row, one behind the other.
	lists [][]api.Whole
	// width is the number of columns.
	width int
	// factors are what the rows have been divided by.
	factors []api.Rat
	// shares are what the columns have been divided by, once they have been.
	shares []api.Whole
}

// rows returns a matrix over the tower, its rows divided by what makes them lists of integers without a
// common divisor.
func (o *order) rows(a [][]api.Num) *rows {
	r := &rows{order: o, width: width(a)}
	n := len(o.units)
	for _, row := range a {
		all := make(api.Poly, r.width*n)
		for k, x := range row {
			o.spread(all[k*n:], x)
		}
		list, factor := whole.Split(all)
		r.lists = append(r.lists, list)
		r.factors = append(r.factors, factor)
	}
	return r
}

// width returns the number of columns of a matrix.
func width[T any](a [][]T) int {
	if len(a) == 0 {
		return 0
	}
	return len(a[0])
}

// at returns the list of the number in the row i and the column k.
func (r *rows) at(i, k int) []api.Whole {
	n := len(r.units)
	return r.lists[i][k*n : (k+1)*n]
}

// divideColumns divides each column by its greatest common divisor. The integers of a row over one
// denominator can be much longer than those of the numbers; in the product of two matrices, for one,
// they have most of their length from such divisors.
func (r *rows) divideColumns() {
	one := integer.Of(1)
	for k := range r.width {
		common := r.columnDivisor(k)
		if whole.IsZero(common) {
			common = one
		}
		r.shares = append(r.shares, common)
		for i := range r.lists {
			for j, x := range r.at(i, k) {
				r.at(i, k)[j] = whole.Quotient(x, common)
			}
		}
	}
}

// columnDivisor returns the greatest common divisor of the column k.
func (r *rows) columnDivisor(k int) api.Whole {
	one, common := integer.Of(1), api.Whole{}
	for i := range r.lists {
		for _, x := range r.at(i, k) {
			if common = integer.Gcd(common, x); integer.Cmp(common, one) == 0 {
				return common
			}
		}
	}
	return common
}

// minorBits returns a number of bits: the absolute values of the integers of minors with at most n rows
// are below 2 to the power of it.
func (r *rows) minorBits(n int) int {
	// A minor is a sum of products of numbers from different rows. All these products, and others, are
	// in the product of the sums of the sizes in each row.
	byRow, byColumn := r.sizes()
	return min(greatestBits(byRow, n), greatestBits(byColumn, n))
}

// sizes returns the sums of the sizes of the numbers of each row, and of each column.
func (r *rows) sizes() (byRow, byColumn []api.Whole) {
	byRow, byColumn = make([]api.Whole, len(r.lists)), make([]api.Whole, r.width)
	for i := range r.lists {
		for k := range r.width {
			size := r.size(r.at(i, k))
			byRow[i] = integer.Add(byRow[i], size)
			byColumn[k] = integer.Add(byColumn[k], size)
		}
	}
	return byRow, byColumn
}

// greatestBits returns the sum of the n greatest numbers of bits.
func greatestBits(sizes []api.Whole, n int) int {
	var all []int
	for _, x := range sizes {
		all = append(all, integer.Bits(x))
	}
	slices.Sort(all)
	sum := 0
	for _, bits := range all[max(0, len(all)-n):] {
		sum += bits
	}
	return sum
}
