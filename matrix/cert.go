package matrix

import (
	"slices"

	"linkwork/api"
	"linkwork/whole"
)

// Certify returns a certificate of the rank of a.
func Certify(t api.Tower, a [][]api.Num) (api.RankCert, error) {
	if err := Check(t, a); err != nil {
		return api.RankCert{}, err
	}
	s := fieldOf(used(t, a)).ask(a, question{rows: true, columns: true, minors: ofOthers})
	return api.RankCert{Rows: s.echelon.chosen, Cols: s.echelon.columns(), Kernel: s.kernel()}, nil
}

// Accepts reports whether c proves that the rank of a is the number of its rows.
func Accepts(t api.Tower, a [][]api.Num, c api.RankCert) (bool, error) {
	if err := Check(t, a); err != nil {
		return false, err
	}
	if err := checkCert(c, len(a), width(a), len(t.Roots)); err != nil {
		return false, err
	}
	if len(c.Kernel) != width(a)-len(c.Cols) {
		return false, nil
	}
	f := fieldOf(used(t, a, c.Kernel))
	return f.rank(minor(a, c)) == len(c.Rows) && f.rank(c.Kernel) == len(c.Kernel) && f.solves(a, c.Kernel), nil
}

// checkCert returns the error of c for matrices with some rows and columns over a tower of some level.
func checkCert(c api.RankCert, height, width, level int) error {
	if len(c.Rows) != len(c.Cols) {
		return api.ErrShape
	}
	if !areBelow(c.Rows, height) || !areBelow(c.Cols, width) {
		return api.ErrIndex
	}
	if !ascend(c.Rows) || !ascend(c.Cols) {
		return api.ErrOrder
	}
	for _, x := range c.Kernel {
		if len(x) != width {
			return api.ErrShape
		}
		if err := checkNumbers(x, level); err != nil {
			return err
		}
	}
	if len(c.Kernel) > MaxRows {
		return api.ErrLarge
	}
	return nil
}

// areBelow reports whether all numbers of a list are from 0 to n - 1.
func areBelow(list []int, n int) bool {
	return !slices.ContainsFunc(list, func(k int) bool { return k < 0 || k >= n })
}

// ascend reports whether each number of a list is greater than the one before it.
func ascend(list []int) bool {
	for i := 1; i < len(list); i++ {
		if list[i-1] >= list[i] {
			return false
		}
	}
	return true
}

// minor returns the rows and columns of a that c has chosen.
func minor(a [][]api.Num, c api.RankCert) [][]api.Num {
	chosen := make([][]api.Num, len(c.Rows))
	for i, row := range c.Rows {
		for _, column := range c.Cols {
			chosen[i] = append(chosen[i], a[row][column])
		}
	}
	return chosen
}

// solves reports whether a x = 0 for each vector x.
func (f *field) solves(a, vectors [][]api.Num) bool {
	return !slices.ContainsFunc(f.rows(a).products(f.rows(vectors)), func(x api.Whole) bool { return !whole.IsZero(x) })
}
