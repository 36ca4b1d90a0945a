package point_test

import (
	"math/big"

	"linkwork/api"
	"linkwork/fraction"
	"linkwork/integer"
)

// modelWay returns p + k (q - p), coordinate by coordinate.
func modelWay(u api.Tower, p, q api.Point, k api.Num) api.Point {
	return api.Point{
		X: add(u, p.X, mul(u, k, sub(u, q.X, p.X))),
		Y: add(u, p.Y, mul(u, k, sub(u, q.Y, p.Y))),
	}
}

// modelArea returns the determinant of the rows (1, X, Y) of p, q and r, expanded by its first column.
func modelArea(u api.Tower, p, q, r api.Point) api.Num {
	minor := func(a, b api.Point) api.Num { return sub(u, mul(u, a.X, b.Y), mul(u, b.X, a.Y)) }
	return add(u, sub(u, minor(q, r), minor(p, r)), minor(p, q))
}

// modelDist2 returns the square of the distance, expanded.
func modelDist2(u api.Tower, p, q api.Point) api.Num {
	part := func(a, b api.Num) api.Num {
		product := mul(u, a, b)
		return sub(u, add(u, mul(u, a, a), mul(u, b, b)), add(u, product, product))
	}
	return add(u, part(p.X, q.X), part(p.Y, q.Y))
}

// modelBetween reports whether the distances of r to p and q have that of p and q as their sum: with
// their squares a, b and c, whether c - a - b is twice the root of a b.
func modelBetween(u api.Tower, p, q, r api.Point) bool {
	a, b, c := modelDist2(u, p, r), modelDist2(u, r, q), modelDist2(u, p, q)
	rest := sub(u, c, add(u, a, b))
	return sign(u, rest) >= 0 && cmp(u, mul(u, rest, rest), mul(u, num("4"), mul(u, a, b))) == 0
}

// exact is a point with coordinates of math/big.
type exact struct{ x, y *big.Rat }

// squares is a tower whose roots are known fractions.
type squares struct {
	tower api.Tower
	roots []*big.Rat
}

// squareTowers returns towers of squares of fractions.
func squareTowers() []squares {
	return []squares{
		{api.Tower{}, nil},
		{roots("4"), []*big.Rat{big.NewRat(2, 1)}},
		{roots("9/16", "2 -4/3"), []*big.Rat{big.NewRat(3, 4), big.NewRat(1, 1)}},
		{roots("1/4", "0 0", "1/2 1 3 5"), []*big.Rat{big.NewRat(1, 2), new(big.Rat), big.NewRat(1, 1)}},
		{
			roots("25", "4 0", "0 0 0 9/10", "4 1 0 0 0 0 0 0", "1/9 0 0 0 0 0 0 0 0 0 0 0 0 0 0 0"),
			[]*big.Rat{big.NewRat(5, 1), big.NewRat(2, 1), big.NewRat(3, 1), big.NewRat(3, 1), big.NewRat(1, 3)},
		},
	}
}

// value returns the value of a.
func (s squares) value(a api.Num) *big.Rat {
	sum := new(big.Rat)
	for i, x := range a {
		product := toBig(x)
		for k, root := range s.roots {
			if i>>k&1 == 1 {
				product.Mul(product, root)
			}
		}
		sum.Add(sum, product)
	}
	return sum
}

// values returns the values of the coordinates of p.
func (s squares) values(p api.Point) exact {
	return exact{s.value(p.X), s.value(p.Y)}
}

// toBig returns the number of x, which has to be valid.
func toBig(x api.Rat) *big.Rat {
	n, d := fraction.Parts(x)
	r, ok := new(big.Rat).SetString(integer.Text(n) + "/" + integer.Text(d))
	if !ok {
		panic("no fraction")
	}
	return r
}

func plusBig(a, b *big.Rat) *big.Rat  { return new(big.Rat).Add(a, b) }
func minusBig(a, b *big.Rat) *big.Rat { return new(big.Rat).Sub(a, b) }
func timesBig(a, b *big.Rat) *big.Rat { return new(big.Rat).Mul(a, b) }

// area returns the determinant of the vectors from p to q and r.
func (p exact) area(q, r exact) *big.Rat {
	return minusBig(timesBig(minusBig(q.x, p.x), minusBig(r.y, p.y)), timesBig(minusBig(q.y, p.y), minusBig(r.x, p.x)))
}

// isBetween reports whether r is on the line through p and q and in their box, or the only point of it.
func (r exact) isBetween(p, q exact) bool {
	in := func(a, b, c *big.Rat) bool { return minusBig(c, a).Sign()*minusBig(c, b).Sign() <= 0 }
	return p.area(q, r).Sign() == 0 && in(p.x, q.x, r.x) && in(p.y, q.y, r.y)
}
