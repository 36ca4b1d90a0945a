package poly

import (
	"linkwork/api"
	"linkwork/integer"
	"linkwork/whole"
)

// divisor returns a primitive greatest common divisor of two primitive lists, 0 if both are 0.
func divisor(a, b list) list {
	if len(a) == 0 {
		return b
	}
	if len(b) == 0 {
		return a
	}
	// The last coefficient of the common divisor divides lead. With lead as the last coefficient it
	// keeps integer coefficients, and its degree modulo every prime that does not divide lead. There
	// the common divisor may have a greater degree, for a few primes, but never a lower one.
	lead := integer.Gcd(last(a), last(b))
	found := combined{}
	for p := firstPrime; ; p = p.before() {
		unit := p.rest(lead)
		if unit == 0 {
			continue
		}
		image := p.divisor(p.rests(a), p.rests(b), unit)
		switch {
		case len(image) == 1:
			return list{integer.Of(1)}
		case len(found.list) == 0 || len(image) < len(found.list):
			found = combined{make(list, len(image)), integer.Of(1)}
		case len(image) > len(found.list):
			continue
		}
		if !found.take(p, image) {
			continue
		}
		// A further prime has changed nothing: this may be all of the common divisor. If it divides
		// both lists it is, as no common divisor has a greater degree.
		if c, _ := whole.Primitive(found.list); divides(c, a) && divides(c, b) {
			return c
		}
	}
}

// divides reports whether a, which is primitive, divides b.
func divides(a, b list) bool {
	_, r, _ := divide(b, a)
	return len(r) == 0
}

// combined is a list of which the rests modulo some primes are known. Its coefficients are the
// ones nearest to 0 that have these rests. The modulus is the product of the primes.
type combined struct {
	list    list
	modulus api.Whole
}

// take takes the rests modulo a further prime, and reports whether the list had them already.
func (c *combined) take(p prime, image []uint64) (same bool) {
	same = true
	inverse := p.inverse(p.rest(c.modulus))
	for i, x := range c.list {
		steps := int(p.sub(image[i], p.rest(x)) * inverse % uint64(p))
		if steps > int(p/2) {
			steps -= int(p)
		}
		if steps != 0 {
			c.list[i] = integer.Add(x, integer.Mul(c.modulus, integer.Of(steps)))
			same = false
		}
	}
	c.modulus = integer.Mul(c.modulus, integer.Of(int(p)))
	return same
}
