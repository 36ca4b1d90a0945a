package line_test

import (
	"math/big"

	"linkwork/api"
	"linkwork/fraction"
	"linkwork/integer"
)

// exact is a model of the package whose numbers are of any kind: the chapter's formulas, written out.
type exact[N any] struct {
	add, sub, mul, div func(a, b N) N
	sign               func(a N) int
	one                N
}

// inTower returns the model with numbers of a tower.
func inTower(u api.Tower) exact[api.Num] {
	with := func(f func(u api.Tower, a, b api.Num) api.Num) func(a, b api.Num) api.Num {
		return func(a, b api.Num) api.Num { return f(u, a, b) }
	}
	return exact[api.Num]{
		with(add), with(sub), with(mul), with(div), func(a api.Num) int { return sign(u, a) }, num("1"),
	}
}

// inBig returns the model with fractions of math/big.
func inBig() exact[*big.Rat] {
	with := func(f func(c, a, b *big.Rat) *big.Rat) func(a, b *big.Rat) *big.Rat {
		return func(a, b *big.Rat) *big.Rat { return f(new(big.Rat), a, b) }
	}
	return exact[*big.Rat]{
		with((*big.Rat).Add), with((*big.Rat).Sub), with((*big.Rat).Mul), with((*big.Rat).Quo),
		(*big.Rat).Sign, big.NewRat(1, 1),
	}
}

// equal reports whether all numbers of a and b are equal.
func (e exact[N]) equal(a, b []N) bool {
	for i := range a {
		if e.sign(e.sub(a[i], b[i])) != 0 {
			return false
		}
	}
	return true
}

// zero reports whether all numbers of a are 0.
func (e exact[N]) zero(a ...N) bool {
	for i := range a {
		if e.sign(a[i]) != 0 {
			return false
		}
	}
	return true
}

// minor returns a d - b c.
func (e exact[N]) minor(a, b, c, d N) N {
	return e.sub(e.mul(a, d), e.mul(b, c))
}

// through returns the line through p and q, and whether there is only one.
func (e exact[N]) through(p, q []N) ([]N, bool) {
	l := []N{e.sub(p[1], q[1]), e.sub(q[0], p[0]), e.sub(e.mul(p[0], q[1]), e.mul(p[1], q[0]))}
	return l, !e.equal(p, q)
}

// at returns A X + B Y + C W.
func (e exact[N]) at(l, p []N) N {
	return e.add(e.add(e.mul(l[0], p[0]), e.mul(l[1], p[1])), e.mul(l[2], p[2]))
}

// foot returns where the normal of l through p meets l, by Cramer's rule, and whether there is such a point.
func (e exact[N]) foot(l, p []N) ([]N, bool) {
	if e.zero(l[0], l[1]) {
		return nil, false
	}
	// A x + B y = -C and B x - A y = B px - A py.
	n := e.add(e.mul(l[0], l[0]), e.mul(l[1], l[1]))
	x := e.sub(e.mul(l[1], e.minor(l[1], l[0], p[1], p[0])), e.mul(l[0], l[2]))
	y := e.sub(e.mul(l[0], e.minor(l[0], l[1], p[0], p[1])), e.mul(l[1], l[2]))
	return []N{e.div(x, n), e.div(y, n)}, true
}

// parallel reports whether l and m are parallel, and whether both are proper.
func (e exact[N]) parallel(l, m []N) (is, ok bool) {
	if e.zero(l[0], l[1]) || e.zero(m[0], m[1]) {
		return false, false
	}
	return e.zero(e.minor(l[0], l[1], m[0], m[1])), true
}

// common returns the point on two lines or the line through two points, and whether there is only one.
func (e exact[N]) common(a, b []N) ([]N, bool) {
	c := []N{e.minor(a[1], a[2], b[1], b[2]), e.minor(a[2], a[0], b[2], b[0]), e.minor(a[0], a[1], b[0], b[1])}
	if e.zero(a...) || e.zero(b...) {
		return c, false
	}
	return c, !e.factor(a, b)
}

// factor reports whether b is a multiple of a, which is not 0.
func (e exact[N]) factor(a, b []N) bool {
	k := 0
	for e.sign(a[k]) == 0 {
		k++
	}
	// a[k] b = b[k] a.
	for i := range a {
		if !e.zero(e.sub(e.mul(a[k], b[i]), e.mul(b[k], a[i]))) {
			return false
		}
	}
	return true
}

// proper returns the point p, and whether it is one.
func (e exact[N]) proper(p []N) ([]N, bool) {
	if e.zero(p[2]) {
		return nil, false
	}
	return []N{e.div(p[0], p[2]), e.div(p[1], p[2])}, true
}

// same reports whether p and q are the same, and whether none of them is none.
func (e exact[N]) same(p, q []N) (is, ok bool) {
	if e.zero(p...) || e.zero(q...) {
		return false, false
	}
	return e.factor(p, q), true
}

// det returns the determinant of p, q and r, as the sum of its six products.
func (e exact[N]) det(p, q, r []N) N {
	sum := e.sub(e.one, e.one)
	for i := range 3 {
		j, k := (i+1)%3, (i+2)%3
		sum = e.add(sum, e.mul(p[i], e.mul(q[j], r[k])))
		sum = e.sub(sum, e.mul(p[i], e.mul(q[k], r[j])))
	}
	return sum
}

// squares is a tower whose roots are known fractions.
type squares struct {
	setting
	roots []*big.Rat
}

// squareTowers returns towers of squares of fractions.
func squareTowers() []squares {
	null := func(s string) []api.Num { return []api.Num{num(s)} }
	return []squares{
		{setting{tower: api.Tower{}}, nil},
		{setting{roots("4"), null("2 -1")}, []*big.Rat{big.NewRat(2, 1)}},
		{setting{roots("9/16", "2 -4/3"), null("1 0 -1 0")}, []*big.Rat{big.NewRat(3, 4), big.NewRat(1, 1)}},
		{
			setting{roots("1/4", "0 0", "1/2 1 3 5"), null("0 2 0 0 -1 0 0 0")},
			[]*big.Rat{big.NewRat(1, 2), new(big.Rat), big.NewRat(1, 1)},
		},
		{
			setting{roots("25", "4 0", "0 0 0 9/10", "4 1 0 0 0 0 0 0", "1/9 0 0 0 0 0 0 0 0 0 0 0 0 0 0 0"), null("5 -1")},
			[]*big.Rat{big.NewRat(5, 1), big.NewRat(2, 1), big.NewRat(3, 1), big.NewRat(3, 1), big.NewRat(1, 3)},
		},
	}
}

// value returns the value of a.
func (s squares) value(a api.Num) *big.Rat {
	sum := new(big.Rat)
	for i, x := range a {
		product := toBig(x)
		for k, root := range s.roots {
			if i>>k&1 == 1 {
				product.Mul(product, root)
			}
		}
		sum.Add(sum, product)
	}
	return sum
}

// values returns the values of some numbers.
func (s squares) values(l []api.Num) []*big.Rat {
	var all []*big.Rat
	for _, a := range l {
		all = append(all, s.value(a))
	}
	return all
}

// toBig returns the number of x, which has to be valid.
func toBig(x api.Rat) *big.Rat {
	n, d := fraction.Parts(x)
	r, ok := new(big.Rat).SetString(integer.Text(n) + "/" + integer.Text(d))
	if !ok {
		panic("no fraction")
	}
	return r
}
