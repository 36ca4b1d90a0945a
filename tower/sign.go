package tower

import (
	"linkwork/api"
	"linkwork/integer"
	"linkwork/whole"
)

// sign returns the sign of the value of a.
func (r *ring) sign(a list) int {
	a = r.alive(a)
	if sign, ok := commonSign(a); ok {
		return sign
	}
	// Bounds prove nearly all signs, at a small part of the cost. They cannot prove that a number
	// is 0: when they have more bits than the coefficients, it is time to compute exactly.
	enough := longest(a)
	for step := 0; ; step++ {
		b := r.boundsAt(step, len(a))
		if sign, certain := b.sign(a); certain {
			return sign
		}
		if b.words*wordBits > enough {
			return r.exactSign(a)
		}
	}
}

// alive returns a without the products that have a root whose value is 0.
func (r *ring) alive(a list) list {
	if r.dead == 0 {
		return a
	}
	c := make(list, len(a))
	for i, n := range a {
		if i&r.dead == 0 {
			c[i] = n
		}
	}
	return short(c, whole.IsZero)
}

// commonSign returns the sign of a, whose roots are above 0, if all coefficients have the same
// one. So it is for a single coefficient, and for 0.
func commonSign(a list) (sign int, ok bool) {
	for _, n := range a {
		s := integer.Sign(n)
		if s*sign < 0 {
			return 0, false
		}
		if s != 0 {
			sign = s
		}
	}
	return sign, true
}

// exactSign returns the sign of a, which has roots, all of them above 0.
func (r *ring) exactSign(a list) int {
	k := lastRoot(a)
	x, y := halves(a, k)
	signX, signY := r.sign(x), r.sign(y)
	switch {
	case signX == 0:
		return signY
	case signX*signY >= 0:
		return signX
	}
	// The halves have different signs: the one with the greater square wins.
	n, _ := primitive(r.norm(a, k))
	return signX * r.sign(n)
}

// floor returns the greatest integer that is at most the value of a, and whether it is the value.
func (r *ring) floor(a quotient) (n api.Whole, exact bool) {
	low, high := r.near(a)
	if r.compare(a, high) >= 0 {
		low = high
	}
	return low, r.compare(a, low) == 0
}

// near returns two integers, the same or next to one another; the greatest one that is at most
// the value of a is one of them.
func (r *ring) near(a quotient) (low, high api.Whole) {
	for step := 0; ; step++ {
		b := r.boundsAt(step, len(a.top))
		lo, hi := b.around(a.top)
		den := shiftUp(a.den, b.words)
		low, high = whole.Quotient(lo, den), whole.Quotient(hi, den)
		if integer.Cmp(high, integer.Add(low, integer.Of(1))) <= 0 {
			return low, high
		}
	}
}

// compare returns the sign of the value of a - n.
func (r *ring) compare(a quotient, n api.Whole) int {
	return r.sign(sub(a.top, scale(list{a.den}, n)))
}
