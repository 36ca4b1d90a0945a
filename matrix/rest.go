package matrix

import (
	"math/bits"

	"linkwork/api"
	"linkwork/residue"
)

// rests computes with the numbers of an order modulo a prime. A number is a list of rests, one for each
// product of the roots; a list of 2^k rests has the first k roots only.
type rests struct {
	prime residue.Prime
	// under are the squares of the roots.
	under [][]uint64
	// spare has memory for a number beside each root, one without this root and those after it.
	spare [][]uint64
}

// modulo returns what computes modulo a prime.
func (o *order) modulo(p residue.Prime) *rests {
	r := &rests{prime: p}
	for _, d := range o.under {
		r.under = append(r.under, r.all(d))
		r.spare = append(r.spare, make([]uint64, len(d)))
	}
	return r
}

// all returns the rests of some integers.
func (r *rests) all(a []api.Whole) []uint64 {
	c := make([]uint64, len(a))
	for i, x := range a {
		c[i] = r.prime.Rest(x)
	}
	return c
}

// zero returns the number 0 with all roots.
func (r *rests) zero() []uint64 {
	return make([]uint64, 1<<len(r.under))
}

// add adds a * b to c. All three have the same length.
func (r *rests) add(c, a, b []uint64) {
	if allZero(a) || allZero(b) {
		return
	}
	if len(a) == 1 {
		c[0] = (c[0] + a[0]*b[0]) % uint64(r.prime)
		return
	}
	k := lastRoot(a)
	half := 1 << k
	x, y := a[:half], a[half:]
	u, v := b[:half], b[half:]
	r.add(c[:half], x, u)
	r.add(c[half:], x, v)
	r.add(c[half:], y, u)
	// With the root twice, the product of y and v counts times the square of the root.
	square := r.spare[k]
	clear(square)
	r.add(square, y, v)
	r.add(c[:half], square, r.under[k])
}

// lastRoot returns the number of the last root in a list of more than one rest.
func lastRoot(a []uint64) int {
	return bits.Len(uint(len(a))) - 2
}

// mul returns a * b.
func (r *rests) mul(a, b []uint64) []uint64 {
	c := make([]uint64, len(a))
	r.add(c, a, b)
	return c
}

// negative returns -a.
func (r *rests) negative(a []uint64) []uint64 {
	c := make([]uint64, len(a))
	for i, x := range a {
		c[i] = r.prime.Sub(0, x)
	}
	return c
}

// inverse returns 1 / a, if a has an inverse.
func (r *rests) inverse(a []uint64) (inverse []uint64, ok bool) {
	if len(a) == 1 {
		return []uint64{r.prime.Inverse(a[0])}, a[0] != 0
	}
	// The inverse of x + y s is x - y s over the norm x^2 - y^2 s^2.
	k := lastRoot(a)
	x, y := a[:1<<k], a[1<<k:]
	minus := r.negative(y)
	norm := r.mul(x, x)
	r.add(norm, r.mul(y, minus), r.under[k])
	n, ok := r.inverse(norm)
	if !ok {
		return nil, false
	}
	return append(r.mul(x, n), r.mul(minus, n)...), true
}

// allZero reports whether all rests of a are 0.
func allZero(a []uint64) bool {
	for _, x := range a {
		if x != 0 {
			return false
		}
	}
	return true
}
