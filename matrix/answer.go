package matrix

import (
	"slices"

	"linkwork/api"
	"linkwork/fraction"
	"linkwork/integer"
	"linkwork/residue"
	"linkwork/tower"
	"linkwork/whole"
)

// question is what is asked about a matrix, beside its rank.
type question struct {
	// rows and columns say whether it is asked which rows are chosen, and which columns have a pivot.
	rows, columns bool
	// minors returns the minors that are asked for, modulo a prime; perhaps none.
	minors func(e *echelon) []uint64
}

// isSure reports whether e, modulo a single prime, answers the question about ranks, rows and columns. A
// greater rank than modulo a prime is possible, but a lesser one is not.
func (q question) isSure(e *echelon) bool {
	return e.isFull() && (!q.rows || areFirst(e.chosen)) && (!q.columns || areFirst(e.columns()))
}

// areFirst reports whether the numbers of an ascending list are 0 and those that follow.
func areFirst(list []int) bool {
	return len(list) == 0 || list[len(list)-1] == len(list)-1
}

// answer is what has been found about a matrix.
type answer struct {
	field *field
	rows  *rows
	// echelon is the matrix modulo a prime for which the answer is that without a prime.
	echelon *echelon
	// minors are the integers of the minors.
	minors []api.Whole
}

// ask returns the answer about a matrix.
func (f *field) ask(a [][]api.Num, q question) *answer {
	r := f.rows(a)
	r.divideColumns()
	e, minors := r.reduceAll(q)
	return &answer{f, r, e, minors}
}

// reduceAll returns the matrix modulo one of the primes that the answer needs, and the integers of the minors.
func (r *rows) reduceAll(q question) (*echelon, []api.Whole) {
	var best *echelon
	var found residue.Combined
	least := 0
	for p := residue.First; ; p = p.Before() {
		e, ok := r.reduce(p)
		if !ok || best != nil && e.compare(best) > 0 {
			continue
		}
		minors := q.minors(e)
		if len(minors) == 0 && q.isSure(e) {
			return e, nil
		}
		if best == nil || e.compare(best) < 0 {
			// If a rank were greater, that of the matrix or of its first rows or columns, a minor with at
			// most one row more than there are pivots would not be 0, but all the primes would divide it.
			best, found = e, residue.Unknown(len(minors))
			least = r.minorBits(len(e.pivots)+1) + 1
		}
		found.Take(p, minors)
		if integer.Bits(found.Modulus) > least {
			return best, found.List
		}
	}
}

// combinations returns, for each of the columns that the minors belong to, the factors of the pivots'
// columns whose sum is this column, times the sign.
func (s *answer) combinations(columns []int, sign int) [][]api.Num {
	if len(columns) == 0 {
		return nil
	}
	f, r, pivots := s.field, s.rows, s.echelon.pivots
	minors := slices.Collect(slices.Chunk(s.minors, len(r.units)))
	// The determinant is not 0: there is no error.
	inverse, _ := tower.Inverse(f.tower, r.number(minors[0], fraction.Of(sign)))
	minors = minors[1:]
	all := make([][]api.Num, len(columns))
	for i, k := range columns {
		for j, p := range pivots {
			numerator := r.number(minors[j], whole.Ratio(r.shares[k], r.shares[p.lead]))
			quotient, _ := tower.Mul(f.tower, numerator, inverse)
			all[i] = append(all[i], f.given(quotient))
		}
		minors = minors[len(pivots):]
	}
	return all
}
