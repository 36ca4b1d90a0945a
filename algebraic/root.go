package algebraic

import (
	"linkwork/api"
	"linkwork/fraction"
	"linkwork/interval"
	"linkwork/poly"
	"linkwork/whole"
)

// root is a number that has been checked: the only root of a polynomial without multiple ones that is
// in an interval. If this is no point the root is strictly inside, and the polynomial has opposite
// signs at the ends. Roots share memory with the numbers, and are not changed once they are made.
type root struct {
	p    api.Poly
	list []api.Whole // the coefficients of p times a number above 0
	span api.Range
}

// open returns the root that a stands for, or the error of a.
func open(a api.Alg) (root, error) {
	if err := Check(a); err != nil {
		return root{}, err
	}
	list, _ := whole.List(a.P)
	// An interval that goes beyond all roots would only make the computation longer.
	end := whole.Reach(list)
	// The root is in both intervals: there is no error.
	span, _ := interval.Meet(a.R, api.Range{Lo: fraction.Neg(end), Hi: end})
	return root{a.P, list, span}, nil
}

// openBoth returns the roots that a and b stand for, or the first error.
func openBoth(a, b api.Alg) (x, y root, err error) {
	if x, err = open(a); err != nil {
		return root{}, root{}, err
	}
	if y, err = open(b); err != nil {
		return root{}, root{}, err
	}
	return x, y, nil
}

// isPoint reports whether the interval of x is a point.
func (x root) isPoint() bool {
	return fraction.Cmp(x.span.Lo, x.span.Hi) == 0
}

// signAt returns the sign of the polynomial of x at y.
func (x root) signAt(y api.Rat) int {
	n, d := fraction.Parts(y)
	return whole.Sign(x.list, n, d)
}

// cmpRat returns the sign of x - y.
func (x root) cmpRat(y api.Rat) int {
	switch {
	case x.isPoint():
		return fraction.Cmp(x.span.Lo, y)
	case fraction.Cmp(x.span.Lo, y) >= 0:
		return 1
	case fraction.Cmp(x.span.Hi, y) <= 0:
		return -1
	}
	// Before the root the sign is that of the lower end.
	return x.signAt(x.span.Lo) * x.signAt(y)
}

// cmp returns the sign of x - y.
func (x root) cmp(y root) int {
	switch {
	case x.isPoint():
		return -y.cmpRat(x.span.Lo)
	case y.isPoint():
		return x.cmpRat(y.span.Lo)
	case x.cmpRat(y.span.Lo) <= 0:
		return -1
	case x.cmpRat(y.span.Hi) >= 0:
		return 1
	}
	// As x is inside of the interval of y, where the polynomial of y has no root but y, its sign at x
	// says on which side of y that is.
	return -y.signAt(y.span.Lo) * x.signOf(y.p)
}

// signOf returns the sign of q at x.
func (x root) signOf(q api.Poly) int {
	if x.isRootOf(q) {
		return 0
	}
	list, _ := whole.List(q)
	return x.bracket().signOf(list)
}

// isRootOf reports whether q is 0 at x.
func (x root) isRootOf(q api.Poly) bool {
	// The polynomials have no errors: Gcd has none.
	common, _ := poly.Gcd(x.p, q)
	// No root of the common divisor but x can be in the interval. There its sign changes, as it has no
	// multiple roots.
	list, _ := whole.List(common)
	lo, hi, unit := whole.Ends(x.span)
	return whole.Sign(list, lo, unit)*whole.Sign(list, hi, unit) <= 0
}

// near returns the interval from the greatest multiple of 2^-bits that is at most x to the least one
// that is at least x.
func (x root) near(bits int) api.Range {
	// The greatest multiple that is at most the end of such a short interval is that of x or the next one.
	step := unit(bits)
	lo, _ := fraction.Grid(x.bracket().within(bits), bits)
	switch x.cmpRat(lo) {
	case 0:
		return interval.Point(lo)
	case -1:
		lo = fraction.Sub(lo, step)
	}
	return api.Range{Lo: lo, Hi: fraction.Add(lo, step)}
}
