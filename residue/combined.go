package residue

import (
	"linkwork/api"
	"linkwork/integer"
)

// Combined is a list of integers of which the rests modulo some primes are known. The elements are
// the ones nearest to 0 that have these rests. The modulus is the product of the primes.
type Combined struct {
	List    []api.Whole
	Modulus api.Whole
}

// Unknown returns n integers of which no rests are known.
func Unknown(n int) Combined {
	return Combined{make([]api.Whole, n), integer.Of(1)}
}

// Take takes the rests modulo a further prime, and reports whether the list had them already.
func (c *Combined) Take(p Prime, rests []uint64) (same bool) {
	same = true
	inverse := p.Inverse(p.Rest(c.Modulus))
	for i, x := range c.List {
		steps := int(p.Mul(p.Sub(rests[i], p.Rest(x)), inverse))
		if steps > int(p/2) {
			steps -= int(p)
		}
		if steps != 0 {
			c.List[i] = integer.Add(x, integer.Mul(integer.Of(steps), c.Modulus))
			same = false
		}
	}
	c.Modulus = integer.Mul(integer.Of(int(p)), c.Modulus)
	return same
}
