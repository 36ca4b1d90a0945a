package poly

import (
	"linkwork/integer"
	"linkwork/residue"
	"linkwork/whole"
)

// divisor returns a primitive greatest common divisor of two primitive lists, 0 if both are 0.
func divisor(a, b list) list {
	if len(a) == 0 {
		return b
	}
	if len(b) == 0 {
		return a
	}
	// The last coefficient of the common divisor divides lead. With lead as the last coefficient it
	// keeps integer coefficients, and its degree modulo every prime that does not divide lead. There
	// the common divisor may have a greater degree, for a few primes, but never a lower one.
	lead := integer.Gcd(last(a), last(b))
	found := residue.Unknown(0)
	for p := residue.First; ; p = p.Before() {
		unit := p.Rest(lead)
		if unit == 0 {
			continue
		}
		image := divisorModulo(p, p.Rests(a), p.Rests(b), unit)
		switch {
		case len(image) == 1:
			return list{integer.Of(1)}
		case len(found.List) == 0 || len(image) < len(found.List):
			found = residue.Unknown(len(image))
		case len(image) > len(found.List):
			continue
		}
		if !found.Take(p, image) {
			continue
		}
		// A further prime has changed nothing: this may be all of the common divisor. If it divides
		// both lists it is, as no common divisor has a greater degree.
		if c, _ := whole.Primitive(found.List); divides(c, a) && divides(c, b) {
			return c
		}
	}
}

// divides reports whether a, which is primitive, divides b.
func divides(a, b list) bool {
	_, r, _ := divide(b, a)
	return len(r) == 0
}

// divisorModulo returns the greatest common divisor of a and b that has the given last coefficient, in
// the memory of a or b. Not both of them are empty.
func divisorModulo(p residue.Prime, a, b []uint64, end uint64) []uint64 {
	for len(b) > 0 {
		a, b = b, restModulo(p, a, b)
	}
	p.Scale(a, p.Mul(end, p.Inverse(a[len(a)-1])))
	return a
}

// restModulo returns the rest of the division of a by b, which is not empty, in the memory of a.
func restModulo(p residue.Prime, a, b []uint64) []uint64 {
	inverse := p.Inverse(b[len(b)-1])
	for len(a) >= len(b) {
		p.Take(a, b, p.Mul(a[len(a)-1], inverse), len(a)-len(b))
		a = residue.Cut(a)
	}
	return a
}
