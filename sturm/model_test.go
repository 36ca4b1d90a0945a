package sturm_test

import (
	"math/big"
	"testing"

	"linkwork/api"
)

// model is a polynomial over big.Rat, with which the definitions of the chapter are followed step by step.
type model []*big.Rat

// toModel returns p, whose fractions have to be valid.
func toModel(t *testing.T, p api.Poly) model {
	t.Helper()
	m := make(model, len(p))
	for i, c := range p {
		m[i] = toBig(t, c)
	}
	return m
}

// poly returns m as a polynomial.
func (m model) poly() api.Poly {
	var p api.Poly
	for _, c := range m {
		p = append(p, fromBig(c))
	}
	return p
}

// scale returns m times x, which is not 0.
func (m model) scale(x *big.Rat) model {
	c := make(model, len(m))
	for i := range m {
		c[i] = new(big.Rat).Mul(m[i], x)
	}
	return c
}

// div returns the quotient and the rest, for n other than 0.
func (m model) div(n model) (quotient, rest model) {
	rest = m.scale(big.NewRat(1, 1))
	if len(m) >= len(n) {
		quotient = make(model, len(m)-len(n)+1)
	}
	for i := len(quotient) - 1; i >= 0; i-- {
		quotient[i] = new(big.Rat).Quo(rest[i+len(n)-1], n[len(n)-1])
		for k, c := range n {
			rest[i+k] = new(big.Rat).Sub(rest[i+k], new(big.Rat).Mul(quotient[i], c))
		}
	}
	for len(rest) > 0 && rest[len(rest)-1].Sign() == 0 {
		rest = rest[:len(rest)-1]
	}
	return quotient, rest
}

// monic returns m, which is not 0, divided by its last coefficient.
func (m model) monic() model {
	return m.scale(new(big.Rat).Inv(m[len(m)-1]))
}

func (m model) derive() model {
	var d model
	for i := 1; i < len(m); i++ {
		d = append(d, new(big.Rat).Mul(m[i], big.NewRat(int64(i), 1)))
	}
	return d
}

// free returns the monic polynomial without multiple roots that has the roots of m, which is not 0.
func (m model) free() model {
	a, b := m, m.derive()
	for len(b) > 0 {
		_, rest := a.div(b)
		a, b = b, rest
	}
	quotient, _ := m.div(a)
	return quotient.monic()
}

// sign returns the sign of the value at x.
func (m model) sign(x *big.Rat) int {
	value := new(big.Rat)
	for i := len(m) - 1; i >= 0; i-- {
		value.Mul(value, x)
		value.Add(value, m[i])
	}
	return value.Sign()
}

// chain returns Sturm's chain of m.
func (m model) chain() []model {
	f := m.free()
	all := []model{f}
	for next := f.derive(); len(next) > 0; {
		all = append(all, next)
		_, rest := all[len(all)-2].div(next)
		next = rest.scale(big.NewRat(-1, 1))
	}
	return all
}

// sturmModel is a polynomial, and Sturm's chain of it, with the changes that have been counted.
type sturmModel struct {
	p       model
	chain   []model
	counted map[string]int
}

// toSturm returns p with its chain.
func toSturm(t *testing.T, p api.Poly) sturmModel {
	t.Helper()
	m := toModel(t, p)
	return sturmModel{m, m.chain(), map[string]int{}}
}

// changes returns the changes of the chain at x.
func (s sturmModel) changes(x *big.Rat) int {
	if n, ok := s.counted[x.String()]; ok {
		return n
	}
	n, before := 0, 0
	for _, m := range s.chain {
		sign := m.sign(x)
		if sign*before < 0 {
			n++
		}
		if sign != 0 {
			before = sign
		}
	}
	s.counted[x.String()] = n
	return n
}

// count returns the number of roots that are greater than lo and at most hi, by Sturm's theorem.
func (s sturmModel) count(lo, hi *big.Rat) int {
	return s.changes(lo) - s.changes(hi)
}

// bound returns the least power of 2, at least 1, that is at least 1 + |c| for all quotients c.
func (s sturmModel) bound() *big.Rat {
	b, one := big.NewRat(1, 1), big.NewRat(1, 1)
	for _, c := range s.p.monic() {
		for least := new(big.Rat).Add(one, new(big.Rat).Abs(c)); b.Cmp(least) < 0; {
			b.Add(b, b)
		}
	}
	return b
}

// all returns the number of real roots.
func (s sturmModel) all() int {
	b := s.bound()
	return s.count(new(big.Rat).Neg(b), b)
}

// bigRange is an interval of big numbers.
type bigRange struct{ lo, hi *big.Rat }

// ranges returns some intervals as those of the program.
func ranges(l []bigRange) []api.Range {
	var all []api.Range
	for _, r := range l {
		all = append(all, api.Range{Lo: fromBig(r.lo), Hi: fromBig(r.hi)})
	}
	return all
}

// mid returns the middle of r.
func (r bigRange) mid() *big.Rat {
	x := new(big.Rat).Add(r.lo, r.hi)
	return x.Mul(x, big.NewRat(1, 2))
}

// isolating reports whether r is an isolating interval.
func (s sturmModel) isolating(r bigRange) bool {
	switch r.lo.Cmp(r.hi) {
	case 1:
		return false
	case 0:
		return s.p.sign(r.lo) == 0
	}
	return s.chain[0].sign(r.lo)*s.chain[0].sign(r.hi) == -1 && s.count(r.lo, r.hi) == 1
}

// isolate returns the isolating intervals that the search of the chapter finds.
func (s sturmModel) isolate() []bigRange {
	b := s.bound()
	return s.search(bigRange{new(big.Rat).Neg(b), b})
}

// search searches an interval.
func (s sturmModel) search(r bigRange) []bigRange {
	n := s.count(r.lo, r.hi)
	switch {
	case n == 0:
		return nil
	case n == 1 && s.p.sign(r.lo) != 0 && s.p.sign(r.hi) == 0:
		return []bigRange{{r.hi, r.hi}}
	case n == 1 && s.p.sign(r.lo) != 0:
		return []bigRange{r}
	}
	return append(s.search(bigRange{r.lo, r.mid()}), s.search(bigRange{r.mid(), r.hi})...)
}

// refine returns the isolating interval of the root in r that is at most 2^-bits wide.
func (s sturmModel) refine(r bigRange, bits int) bigRange {
	width := new(big.Rat).SetFrac(big.NewInt(1), new(big.Int).Lsh(big.NewInt(1), uint(bits)))
	for new(big.Rat).Sub(r.hi, r.lo).Cmp(width) > 0 {
		mid := r.mid()
		switch {
		case s.p.sign(mid) == 0:
			r = bigRange{mid, mid}
		case s.count(r.lo, mid) == 1:
			r.hi = mid
		default:
			r.lo = mid
		}
	}
	return r
}
