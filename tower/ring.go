package tower

import (
	"linkwork/api"
	"linkwork/integer"
	"linkwork/whole"
)

// ring is a tower whose numbers are computed without denominators: the root k of the ring is
// that of the tower times an integer, so that the coefficients of its square are integers too.
type ring struct {
	// under are the squares of the roots.
	under []list
	// units are the factors by which the products of the roots are greater than in the tower.
	units []api.Whole
	// dead has the bits of the roots whose value is 0.
	dead int
	// bounds are what has been found about the values of the products, from few to many bits.
	bounds []*bounds
}

// quotient is the number top / den of a ring. den is not 0.
type quotient struct {
	top list
	den api.Whole
}

// ringOf returns the ring of a tower, and the error of the tower.
func ringOf(t api.Tower) (*ring, error) {
	if len(t.Roots) > api.MaxLevel {
		return nil, api.ErrLarge
	}
	r := &ring{units: []api.Whole{integer.Of(1)}}
	for k, d := range t.Roots {
		if len(d) != 1<<k {
			return nil, api.ErrShape
		}
		if err := checkFractions(d); err != nil {
			return nil, err
		}
		under := r.whole(d)
		sign := r.sign(under.top)
		if sign < 0 {
			return nil, api.ErrRange
		}
		r.grow(under, sign == 0)
	}
	return r, nil
}

// grow adds the root of a number, whose denominator is above 0 and whose value is 0 if dead.
func (r *ring) grow(under quotient, dead bool) {
	if dead {
		r.dead |= 1 << len(r.under)
	}
	// The root times the denominator is the root of the numerator times the denominator. If the
	// denominator is a square, as it often is, its root will do, and numbers stay shorter.
	square, unit := under.top, under.den
	if root, exact := rootBelow(under.den); exact {
		unit = root
	} else {
		square = scale(square, unit)
	}
	r.under = append(r.under, square)
	for _, u := range r.units {
		r.units = append(r.units, integer.Mul(u, unit))
	}
}

// whole returns the valid number a of the tower, with a denominator above 0.
func (r *ring) whole(a api.Num) quotient {
	parts := make(api.Num, len(a))
	den := integer.Of(1)
	for i, x := range a {
		if isZero(x) {
			continue
		}
		parts[i] = whole.Ratio(api.Whole{Neg: x.Neg, Mag: x.Num}, integer.Mul(api.Whole{Mag: x.Den}, r.units[i]))
		den = whole.Multiple(den, api.Whole{Mag: parts[i].Den})
	}
	top := make(list, len(a))
	for i, x := range parts {
		if !isZero(x) {
			top[i] = integer.Mul(api.Whole{Neg: x.Neg, Mag: x.Num}, whole.Quotient(den, api.Whole{Mag: x.Den}))
		}
	}
	return quotient{short(top, whole.IsZero), den}
}

// fractions returns a as a number of the tower.
func (r *ring) fractions(a quotient) api.Num {
	c := make(api.Num, len(a.top))
	for i, n := range a.top {
		c[i] = whole.Ratio(integer.Mul(n, r.units[i]), a.den)
	}
	return c
}

// mul returns a * b.
func (r *ring) mul(a, b list) list {
	if len(a) < len(b) {
		a, b = b, a
	}
	switch len(b) {
	case 0:
		return nil
	case 1:
		return scale(a, b[0])
	}
	k := lastRoot(a)
	x, y := halves(a, k)
	u, v := halves(b, k)
	if len(v) == 0 {
		return join(r.mul(x, u), r.mul(y, u), k)
	}
	top := add(r.mul(x, u), r.mul(r.mul(y, v), r.under[k]))
	return join(top, add(r.mul(x, v), r.mul(y, u)), k)
}

// norm returns the product of a and its conjugate, in which the root k is negated. a has no
// later root.
func (r *ring) norm(a list, k int) list {
	x, y := halves(a, k)
	return sub(r.mul(x, x), r.mul(r.mul(y, y), r.under[k]))
}

// inverse returns 1 / a, for a whose value is not 0.
func (r *ring) inverse(a list) quotient {
	k := lastRoot(a)
	if k < 0 {
		return quotient{list{integer.Of(1)}, a[0]}
	}
	x, y := halves(a, k)
	n, factor := primitive(r.norm(a, k))
	if r.sign(n) == 0 {
		// The value of the conjugate x - y s is 0, so that a = x + y s has the value of 2 x.
		return r.inverse(add(x, x))
	}
	i := r.inverse(n)
	conjugate := join(x, sub(nil, y), k)
	return quotient{r.mul(conjugate, i.top), integer.Mul(i.den, factor)}
}
