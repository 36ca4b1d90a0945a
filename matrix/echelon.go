package matrix

import (
	"cmp"
	"slices"

	"linkwork/residue"
)

// echelon is a matrix modulo a prime, reduced row by row.
type echelon struct {
	*rests
	height, width int
	// chosen are the rows that do not depend on the rows before them.
	chosen []int
	// pivots are what these rows have become, sorted by their columns in the end.
	pivots []pivot
	// det is the determinant of the chosen rows and the columns of the pivots, ascending.
	det []uint64
}

// pivot is a row whose first number other than 0 is 1. This is in the column lead.
type pivot struct {
	lead int
	row  []uint64
}

// reduce returns the matrix modulo a prime, reduced; false if there is a number on the way that is not
// 0, but has no inverse either. The prime then divides the norm of a minor, as few primes do.
func (a *rows) reduce(p residue.Prime) (*echelon, bool) {
	e := &echelon{rests: a.modulo(p), height: len(a.lists), width: a.width}
	e.det = e.zero()
	e.det[0] = 1
	for i, list := range a.lists {
		if !e.take(i, e.all(list)) {
			return nil, false
		}
	}
	e.sort()
	return e, true
}

// at returns the number in the column k of a row.
func (e *echelon) at(row []uint64, k int) []uint64 {
	n := len(e.det)
	return row[k*n : (k+1)*n]
}

// take takes the row i and its memory. It reports false if a number has no inverse.
func (e *echelon) take(i int, row []uint64) bool {
	for _, p := range e.pivots {
		e.free(row, p)
	}
	lead := 0
	for lead < e.width && allZero(e.at(row, lead)) {
		lead++
	}
	if lead == e.width {
		return true
	}
	inverse, ok := e.inverse(e.at(row, lead))
	if !ok {
		return false
	}
	e.det = e.mul(e.det, e.at(row, lead))
	for k := lead; k < e.width; k++ {
		copy(e.at(row, k), e.mul(e.at(row, k), inverse))
	}
	e.chosen = append(e.chosen, i)
	e.pivots = append(e.pivots, pivot{lead, row})
	return true
}

// free adds the multiple of a pivot to a row that makes it 0 in the column of the pivot.
func (e *echelon) free(row []uint64, p pivot) {
	factor := e.negative(e.at(row, p.lead))
	if allZero(factor) {
		return
	}
	for k := p.lead; k < e.width; k++ {
		e.add(e.at(row, k), e.at(p.row, k), factor)
	}
}

// sort sorts the pivots by their columns, and gives the determinant the sign that this order asks for.
func (e *echelon) sort() {
	odd := false
	for i, p := range e.pivots {
		for _, q := range e.pivots[:i] {
			odd = odd != (q.lead > p.lead)
		}
	}
	if odd {
		e.det = e.negative(e.det)
	}
	slices.SortFunc(e.pivots, func(p, q pivot) int { return cmp.Compare(p.lead, q.lead) })
}

// isFull reports whether no matrix of the same size has a greater rank.
func (e *echelon) isFull() bool {
	return len(e.pivots) == min(e.height, e.width)
}

// columns returns the columns with a pivot, ascending.
func (e *echelon) columns() []int {
	var all []int
	for _, p := range e.pivots {
		all = append(all, p.lead)
	}
	return all
}

// without returns the numbers from 0 to n - 1 that are not in the list, ascending.
func without(list []int, n int) []int {
	var all []int
	for k := range n {
		if !slices.Contains(list, k) {
			all = append(all, k)
		}
	}
	return all
}

// cramer returns the determinant and, for each of some columns without a pivot, numerators: their
// quotients by the determinant are the factors of the pivots' columns whose sum is this column.
func (e *echelon) cramer(columns []int) []uint64 {
	for i, p := range e.pivots {
		for _, later := range e.pivots[i+1:] {
			e.free(p.row, later)
		}
	}
	all := slices.Clone(e.det)
	for _, k := range columns {
		for _, p := range e.pivots {
			all = append(all, e.mul(e.at(p.row, k), e.det)...)
		}
	}
	return all
}

// compare returns a number above 0 if e is worse than f, the same matrix modulo another prime, and 0 if
// both have the same rows and columns chosen.
func (e *echelon) compare(f *echelon) int {
	// A rank modulo a prime is at most the rank. As this is so for the first rows, and for the first
	// columns alone, as well, nothing is better by this order than what is chosen without a prime.
	return cmp.Or(
		cmp.Compare(len(f.pivots), len(e.pivots)),
		slices.Compare(e.chosen, f.chosen),
		slices.Compare(e.columns(), f.columns()),
	)
}
