package resultant_test

import (
	"math/big"
	"math/rand"
	"testing"

	"linkwork/api"
	"linkwork/fraction"
	"linkwork/poly"
	"linkwork/resultant"
)

// model is a polynomial over big.Rat, with which the rules of the chapter are followed step by step.
type model []*big.Rat

// toBig returns the number of x, which is valid.
func toBig(x api.Rat) *big.Rat {
	b, _ := new(big.Rat).SetString(fraction.Text(x))
	return b
}

// fromBig returns the fraction of b.
func fromBig(b *big.Rat) api.Rat {
	x, err := fraction.Parse(b.RatString())
	if err != nil {
		panic(err)
	}
	return x
}

// toModel returns p, which is valid.
func toModel(p api.Poly) model {
	var m model
	for _, c := range p {
		m = append(m, toBig(c))
	}
	return m
}

// poly returns m as a polynomial.
func (m model) poly() api.Poly {
	var p api.Poly
	for _, c := range m {
		p = append(p, fromBig(c))
	}
	return p
}

// at returns the coefficient of x^i.
func (m model) at(i int) *big.Rat {
	if i >= 0 && i < len(m) {
		return m[i]
	}
	return new(big.Rat)
}

// plus returns m + factor x^shift n.
func (m model) plus(n model, factor *big.Rat, shift int) model {
	c := make(model, max(len(m), len(n)+shift))
	for i := range c {
		c[i] = new(big.Rat).Mul(n.at(i-shift), factor)
		c[i].Add(c[i], m.at(i))
	}
	for len(c) > 0 && c[len(c)-1].Sign() == 0 {
		c = c[:len(c)-1]
	}
	return c
}

// mul returns m * n.
func (m model) mul(n model) model {
	var c model
	for i, x := range m {
		c = c.plus(n, x, i)
	}
	return c
}

// div returns the quotient and the rest, for n other than 0.
func (m model) div(n model) (quotient, rest model) {
	for len(m) >= len(n) {
		c := new(big.Rat).Quo(m[len(m)-1], n[len(n)-1])
		quotient = quotient.plus(model{c}, big.NewRat(1, 1), len(m)-len(n))
		m = m.plus(n, new(big.Rat).Neg(c), len(m)-len(n))
	}
	return quotient, m
}

// sylvester returns the matrix, element by element.
func sylvester(p, q model) [][]*big.Rat {
	m, n := len(p)-1, len(q)-1
	rows := make([][]*big.Rat, m+n)
	for i := range rows {
		for k := range m + n {
			x := p.at(m - k + i)
			if i >= n {
				x = q.at(n - k + i - n)
			}
			rows[i] = append(rows[i], new(big.Rat).Set(x))
		}
	}
	return rows
}

// determinant eliminates the elements below the diagonal. It changes the rows.
func determinant(rows [][]*big.Rat) *big.Rat {
	d := big.NewRat(1, 1)
	for i := range rows {
		pivot := i
		for pivot < len(rows) && rows[pivot][i].Sign() == 0 {
			pivot++
		}
		if pivot == len(rows) {
			return new(big.Rat)
		}
		if pivot > i {
			rows[i], rows[pivot] = rows[pivot], rows[i]
			d.Neg(d)
		}
		d.Mul(d, rows[i][i])
		for _, row := range rows[i+1:] {
			factor := new(big.Rat).Quo(row[i], rows[i][i])
			for k := i; k < len(rows); k++ {
				row[k].Sub(row[k], new(big.Rat).Mul(factor, rows[i][k]))
			}
		}
	}
	return d
}

// expand expands the determinant by its first row, without any division.
func expand(rows [][]*big.Rat) *big.Rat {
	if len(rows) == 0 {
		return big.NewRat(1, 1)
	}
	d := new(big.Rat)
	for k, x := range rows[0] {
		var minor [][]*big.Rat
		for _, row := range rows[1:] {
			minor = append(minor, append(append([]*big.Rat{}, row[:k]...), row[k+1:]...))
		}
		part := new(big.Rat).Mul(x, expand(minor))
		if k%2 == 1 {
			part.Neg(part)
		}
		d.Add(d, part)
	}
	return d
}

// euclid follows Euclid's algorithm, and then the rule of the chapter for u and v, for q other than 0.
func euclid(p, q model) (u, v, g model) {
	a, b := p, q
	x, y := model{big.NewRat(1, 1)}, model(nil)
	for len(b) > 0 {
		c, rest := a.div(b)
		a, b = b, rest
		x, y = y, x.plus(c.mul(y), big.NewRat(-1, 1), 0)
	}
	unit := new(big.Rat).Inv(a[len(a)-1])
	g = model(nil).plus(a, unit, 0)
	short, _ := q.div(g)
	_, u = model(nil).plus(x, unit, 0).div(short)
	v, rest := g.plus(u.mul(p), big.NewRat(-1, 1), 0).div(q)
	if len(rest) > 0 {
		panic("g - u p is not divided by q")
	}
	return u, v, g
}

// P8.1: the matrix and its determinant, for pairs of low degrees.
func TestMatrices(t *testing.T) {
	r := rand.New(rand.NewSource(20))
	for _, pair := range pairs(t, r) {
		p, q := pair[0], pair[1]
		want := sylvester(toModel(p), toModel(q))
		rows := must[[][]api.Rat](t)(resultant.Sylvester(p, q))
		if len(rows) != len(want) {
			t.Fatalf("Sylvester(%s, %s) has %d rows", show(p), show(q), len(rows))
		}
		for i, row := range rows {
			expect(t, "a row", row, model(want[i]).poly())
		}
		if len(rows) < 6 {
			expectRat(t, "Resultant", between(t, p, q), fromBig(expand(want)))
		}
		expectRat(t, "Resultant of "+show(p)+" and "+show(q), between(t, p, q), fromBig(determinant(want)))
	}
}

// P8.1: the same for the greatest matrices, with all degrees.
func TestGreatMatrices(t *testing.T) {
	r := rand.New(rand.NewSource(21))
	for m := range resultant.MaxSize + 1 {
		p, q := exact(r, m, 1+m%5), exact(r, resultant.MaxSize-m, 1+m%7)
		rows := must[[][]api.Rat](t)(resultant.Sylvester(p, q))
		want := sylvester(toModel(p), toModel(q))
		for i, row := range rows {
			expect(t, "a row", row, model(want[i]).poly())
		}
		if m%4 == 0 {
			expectRat(t, "Resultant", between(t, p, q), fromBig(determinant(want)))
		}
	}
}

// P8.1: the discriminant is what the chapter makes of the determinant.
func TestDiscriminants(t *testing.T) {
	r := rand.New(rand.NewSource(22))
	all := edges()
	for i := range 150 {
		p := drawFull(r, 1+i%9, 2+i%60)
		all = append(all, p, mul(t, p, p))
	}
	all = append(all, exact(r, 19, 3), exact(r, 20, 3), longest(20))
	for _, p := range all {
		n := poly.Degree(p)
		if n < 1 {
			continue
		}
		slope := must[api.Poly](t)(poly.Derive(p))
		want := determinant(sylvester(toModel(p), toModel(slope)))
		want.Quo(want, toBig(p[n]))
		if n*(n-1)/2%2 == 1 {
			want.Neg(want)
		}
		expectRat(t, "Discriminant of "+show(p), discriminant(t, p), fromBig(want))
	}
}

// checkBezout compares what Bezout returns with the model, for q other than 0.
func checkBezout(t *testing.T, p, q api.Poly) {
	t.Helper()
	u, v, g := bezout(t, p, q)
	a, b, c := euclid(toModel(p), toModel(q))
	expect(t, "u", u, a.poly())
	expect(t, "v", v, b.poly())
	expect(t, "g", g, c.poly())
}

// P8.1: Bezout is what the chapter says, for pairs of low degrees, and with 0.
func TestBezouts(t *testing.T) {
	r := rand.New(rand.NewSource(23))
	for _, pair := range pairs(t, r) {
		checkBezout(t, pair[0], pair[1])
		checkBezout(t, nil, pair[1])
	}
}

// P8.1: the same for great degrees, up to MaxDegree.
func TestGreatBezouts(t *testing.T) {
	r := rand.New(rand.NewSource(24))
	for _, x := range [][3]int{{40, 1, 0}, {1, 40, 0}, {25, 25, 0}, {30, 11, 1}, {11, 30, 2}, {20, 18, 10}, {3, 30, 30}} {
		c := exact(r, x[2], 2)
		checkBezout(t, mul(t, exact(r, x[0], 2), c), mul(t, exact(r, x[1], 2), c))
	}
	for _, x := range [][2]int{{64, 0}, {0, 64}, {64, 1}, {1, 64}, {64, 3}, {2, 64}} {
		checkBezout(t, exact(r, x[0], 3), exact(r, x[1], 3))
	}
	checkBezout(t, longest(64), exact(r, 64, 1))
}
