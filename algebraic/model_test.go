package algebraic_test

import (
	"math/big"
	"testing"

	"linkwork/api"
	"linkwork/fraction"
	"linkwork/poly"
	"linkwork/sturm"
)

// model is a polynomial over big.Rat.
type model []*big.Rat

// toModel returns p, whose fractions have to be valid.
func toModel(p api.Poly) model {
	var m model
	for _, c := range p {
		m = append(m, toBig(c))
	}
	return m
}

// at returns the value of m at x.
func (m model) at(x *big.Rat) *big.Rat {
	value := new(big.Rat)
	for i := len(m) - 1; i >= 0; i-- {
		value.Mul(value, x)
		value.Add(value, m[i])
	}
	return value
}

func (m model) derive() model {
	var d model
	for i := 1; i < len(m); i++ {
		d = append(d, new(big.Rat).Mul(m[i], big.NewRat(int64(i), 1)))
	}
	return d
}

// times returns m times n, which are not 0.
func (m model) times(n model) model {
	c := make(model, len(m)+len(n)-1)
	for i := range c {
		c[i] = new(big.Rat)
	}
	for i, x := range m {
		for k, y := range n {
			c[i+k].Add(c[i+k], new(big.Rat).Mul(x, y))
		}
	}
	return c
}

// negatedRest returns the rest of the division by n, which is not 0, with all signs changed.
func (m model) negatedRest(n model) model {
	var rest model
	for _, c := range m {
		rest = append(rest, new(big.Rat).Neg(c))
	}
	for len(rest) >= len(n) {
		top := len(rest) - 1
		factor := new(big.Rat).Quo(rest[top], n[len(n)-1])
		for k, c := range n {
			place := rest[len(rest)-len(n)+k]
			place.Sub(place, new(big.Rat).Mul(factor, c))
		}
		for len(rest) > 0 && rest[len(rest)-1].Sign() == 0 {
			rest = rest[:len(rest)-1]
		}
	}
	return rest
}

// modelSign returns the sign of q, which is not 0, at a: Tarski's theorem says that it is the
// difference of the changes at the ends of the interval, in the chain of p and p' q.
func modelSign(q api.Poly, a api.Alg) int {
	lo, hi := toBig(a.R.Lo), toBig(a.R.Hi)
	if lo.Cmp(hi) == 0 {
		return toModel(q).at(lo).Sign()
	}
	p := toModel(a.P)
	chain := []model{p, p.derive().times(toModel(q))}
	for next := chain[1]; len(next) > 0; {
		next = chain[len(chain)-2].negatedRest(next)
		chain = append(chain, next)
	}
	return modelChanges(chain, lo) - modelChanges(chain, hi)
}

// modelChanges returns the changes of a chain at x.
func modelChanges(chain []model, x *big.Rat) int {
	n, before := 0, 0
	for _, m := range chain {
		if sign := m.at(x).Sign(); sign != 0 {
			if sign*before < 0 {
				n++
			}
			before = sign
		}
	}
	return n
}

// modelCmp returns the sign of a - b by the numbers of roots of the product of both polynomials that
// are at most a and at most b.
func modelCmp(t *testing.T, a, b api.Alg) int {
	t.Helper()
	product := mul(t, a.P, b.P)
	x, y := rank(t, product, a), rank(t, product, b)
	switch {
	case x < y:
		return -1
	case x > y:
		return 1
	}
	return 0
}

// rank returns the number of different real roots of p that are at most a, which is one of them.
func rank(t *testing.T, p api.Poly, a api.Alg) int {
	t.Helper()
	bound, err := sturm.Bound(p)
	if err != nil {
		t.Fatal(err)
	}
	low := fraction.Neg(bound)
	for bits := 1; bits <= fraction.MaxBits; bits *= 2 {
		r, err := sturm.Refine(a.P, a.R, bits)
		if err != nil {
			t.Fatal(err)
		}
		inside, err := sturm.Count(p, r.Lo, r.Hi)
		if err != nil {
			t.Fatal(err)
		}
		if fraction.Cmp(r.Lo, r.Hi) == 0 || inside == 1 {
			n, _ := sturm.Count(p, low, r.Hi)
			return n
		}
	}
	t.Fatalf("no rank of %s", show(a))
	return 0
}

// modelRoot reports whether p is 0 at a, by the common divisor, and by Sturm's theorem.
func modelRoot(t *testing.T, p api.Poly, a api.Alg) bool {
	t.Helper()
	common, err := poly.Gcd(p, a.P)
	if err != nil {
		t.Fatal(err)
	}
	is, err := sturm.Isolating(common, a.R)
	return err == nil && is
}
