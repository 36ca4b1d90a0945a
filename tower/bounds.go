package tower

import (
	"linkwork/api"
	"linkwork/integer"
)

// firstWords is the number of words behind the point in the first bounds.
const firstWords = 2

// bounds say that the values of the products of the roots, times 2^(32 words), are from lo to hi.
type bounds struct {
	words  int
	lo, hi []api.Whole
}

// boundsAt returns the bounds of a step, of at least n products. Each step has twice as many
// words as the one before it.
func (r *ring) boundsAt(step, n int) *bounds {
	for len(r.bounds) <= step {
		words := firstWords << len(r.bounds)
		one := shiftUp(integer.Of(1), words)
		r.bounds = append(r.bounds, &bounds{words, []api.Whole{one}, []api.Whole{one}})
	}
	b := r.bounds[step]
	for len(b.lo) < n {
		b.grow(r.under[lastRoot(b.lo)+1])
	}
	return b
}

// grow adds the root of a number, whose value is not below 0.
func (b *bounds) grow(under list) {
	lo, hi := b.around(under)
	if lo.Neg {
		lo = api.Whole{}
	}
	low, _ := rootBelow(shiftUp(lo, b.words))
	high := roundUp(rootBelow(shiftUp(hi, b.words)))
	for i := range b.lo {
		x, _ := shiftDown(integer.Mul(b.lo[i], low), b.words)
		y := roundUp(shiftDown(integer.Mul(b.hi[i], high), b.words))
		b.lo, b.hi = append(b.lo, x), append(b.hi, y)
	}
}

// around returns numbers between which the value of a is, times 2^(32 words).
func (b *bounds) around(a list) (lo, hi api.Whole) {
	for i, n := range a {
		near, far := b.lo[i], b.hi[i]
		if n.Neg {
			near, far = far, near
		}
		lo = integer.Add(lo, integer.Mul(n, near))
		hi = integer.Add(hi, integer.Mul(n, far))
	}
	return lo, hi
}

// sign returns the sign of the value of a, if the bounds leave no other.
func (b *bounds) sign(a list) (sign int, certain bool) {
	lo, hi := b.around(a)
	low, high := integer.Sign(lo), integer.Sign(hi)
	switch {
	case low > 0:
		return 1, true
	case high < 0:
		return -1, true
	}
	return 0, low == 0 && high == 0
}
