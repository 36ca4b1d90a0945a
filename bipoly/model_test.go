package bipoly_test

import (
	"cmp"
	"math/big"
	"math/bits"
	"slices"

	"linkwork/api"
	"linkwork/fraction"
)

// model is a polynomial over big.Rat, by its exponents, with which the rules of the chapter are followed
// step by step. Coefficients may be 0.
type model map[[2]int]*big.Rat

// toBig returns the number of x, which is valid.
func toBig(x api.Rat) *big.Rat {
	b, _ := new(big.Rat).SetString(fraction.Text(x))
	return b
}

// fromBig returns the fraction of b.
func fromBig(b *big.Rat) api.Rat {
	return rat(b.RatString())
}

// toModel returns the sum of some terms, which are valid.
func toModel(l []api.Term) model {
	m := model{}
	for _, t := range l {
		m.add(t.I, t.J, toBig(t.C))
	}
	return m
}

// add adds a term to m.
func (m model) add(i, j int, c *big.Rat) {
	at := [2]int{i, j}
	if m[at] == nil {
		m[at] = new(big.Rat)
	}
	m[at].Add(m[at], c)
}

// poly returns m as a polynomial.
func (m model) poly() api.BiPoly {
	var p api.BiPoly
	for at, c := range m {
		if c.Sign() != 0 {
			p = append(p, api.Term{I: at[0], J: at[1], C: fromBig(c)})
		}
	}
	slices.SortFunc(p, func(s, t api.Term) int {
		return cmp.Or(cmp.Compare(s.I+s.J, t.I+t.J), cmp.Compare(s.I, t.I))
	})
	return p
}

// plus returns m + factor * n.
func (m model) plus(n model, factor int64) model {
	sum := model{}
	for at, c := range m {
		sum.add(at[0], at[1], c)
	}
	for at, c := range n {
		sum.add(at[0], at[1], new(big.Rat).Mul(c, big.NewRat(factor, 1)))
	}
	return sum
}

// times returns m * n.
func (m model) times(n model) model {
	product := model{}
	for a, x := range m {
		for b, y := range n {
			product.add(a[0]+b[0], a[1]+b[1], new(big.Rat).Mul(x, y))
		}
	}
	return product
}

// derivative returns the derivative by x (0) or y (1).
func (m model) derivative(by int) model {
	d := model{}
	for at, c := range m {
		n := at[by]
		at[by]--
		d.add(at[0], at[1], new(big.Rat).Mul(c, big.NewRat(int64(n), 1)))
	}
	return d
}

// fix returns m with the value c of x (0) or y (1) in place of this variable.
func (m model) fix(variable int, c *big.Rat) model {
	fixed := model{}
	for at, x := range m {
		value := new(big.Rat).Set(x)
		for range at[variable] {
			value.Mul(value, c)
		}
		at[variable] = 0
		fixed.add(at[0], at[1], value)
	}
	return fixed
}

// list returns the coefficients of m, in which there is only one variable, without zeros at the end.
func (m model) list() []api.Rat {
	var l []api.Rat
	for at, c := range m {
		k := at[0] + at[1]
		for c.Sign() != 0 && len(l) <= k {
			l = append(l, api.Rat{})
		}
		if c.Sign() != 0 {
			l[k] = fromBig(c)
		}
	}
	return l
}

// constant returns the coefficient of x^0 y^0.
func (m model) constant() api.Rat {
	if c := m[[2]int{}]; c != nil {
		return fromBig(c)
	}
	return api.Rat{}
}

// highest returns the highest exponent of y in m, which has no coefficient 0.
func (m model) highest() int {
	n := 0
	for at := range m {
		n = max(n, at[1])
	}
	return n
}

// power returns the coefficient of y^j.
func (m model) power(j int) model {
	c := model{}
	for at, x := range m {
		if at[1] == j {
			c.add(at[0], 0, x)
		}
	}
	return c
}

// sylvester returns Sylvester's matrix of m and n by the powers of y.
func (m model) sylvester(n model) [][]model {
	var rows [][]model
	high, low := m.highest(), n.highest()
	for shift := range low {
		rows = append(rows, m.row(shift, high+low))
	}
	for shift := range high {
		rows = append(rows, n.row(shift, high+low))
	}
	return rows
}

// row returns the coefficients of the powers of y, the highest first, behind some zeros.
func (m model) row(shift, size int) []model {
	row := make([]model, size)
	for j := range m.highest() + 1 {
		row[shift+m.highest()-j] = m.power(j)
	}
	return row
}

// determinant returns the determinant of a matrix by expanding it row by row: the minors of the first
// rows are known for each set of columns.
func determinant(rows [][]model) model {
	minors := []model{{{0, 0}: big.NewRat(1, 1)}}
	for columns := 1; columns < 1<<len(rows); columns++ {
		sum, row := model{}, rows[bits.OnesCount(uint(columns))-1]
		for k := range rows {
			if columns>>k&1 == 1 {
				sign := int64(1 - bits.OnesCount(uint(columns>>(k+1)))%2*2)
				sum = sum.plus(row[k].times(minors[columns&^(1<<k)]), sign)
			}
		}
		minors = append(minors, sum)
	}
	return minors[len(minors)-1]
}
