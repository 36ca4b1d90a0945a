package resultant

import "linkwork/residue"

// line is a polynomial modulo a prime, and the u and v for which it is u a + v b. For the resultant
// alone u and v are not needed: then they are empty.
type line struct{ rest, u, v []uint64 }

// degree returns the degree of the polynomial.
func (x line) degree() int {
	return len(x.rest) - 1
}

// last returns the last coefficient of the polynomial, which is not 0.
func (x line) last() uint64 {
	return x.rest[x.degree()]
}

// euclid returns the resultant of a and b, which are not 0, and, unless the resultant is 0, a line whose
// polynomial is a constant other than 0. It uses the memory of a and b.
func euclid(p residue.Prime, a, b line) (resultant uint64, end line) {
	resultant = 1
	for b.degree() > 0 {
		m, n := a.degree(), b.degree()
		a = reduce(p, a, b)
		if a.degree() < 0 {
			return 0, line{}
		}
		// The resultant of b and a is the last coefficient of b, to the power of the degree of a, times
		// the values of a at the roots of b, which a multiple of b does not change.
		resultant = p.Mul(resultant, p.Power(b.last(), uint64(m-a.degree())))
		if m%2 == 1 && n%2 == 1 {
			resultant = p.Sub(0, resultant)
		}
		a, b = b, a
	}
	return p.Mul(resultant, p.Power(b.last(), uint64(a.degree()))), b
}

// reduce takes multiples of b from a until its degree is less than that of b, in the memory of a.
func reduce(p residue.Prime, a, b line) line {
	inverse := p.Inverse(b.last())
	for a.degree() >= b.degree() {
		factor, shift := p.Mul(a.last(), inverse), a.degree()-b.degree()
		p.Take(a.rest, b.rest, factor, shift)
		p.Take(a.u, b.u, factor, shift)
		p.Take(a.v, b.v, factor, shift)
		a.rest = residue.Cut(a.rest)
	}
	return a
}
