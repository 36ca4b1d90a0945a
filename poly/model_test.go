package poly_test

import (
	"math/big"
	"strconv"
	"strings"
	"testing"

	"linkwork/api"
)

// model is a polynomial over big.Rat, with which the rules of the chapter are followed step by step.
type model []*big.Rat

// toModel returns p, whose fractions have to be valid.
func toModel(t *testing.T, p api.Poly) model {
	t.Helper()
	m := make(model, len(p))
	for i, c := range p {
		m[i] = toBig(t, c)
	}
	return m
}

// poly returns m as a polynomial.
func (m model) poly() api.Poly {
	var p api.Poly
	for _, c := range m {
		p = append(p, fromBig(c))
	}
	return p
}

// cut returns m without the zeros at its end.
func (m model) cut() model {
	for len(m) > 0 && m[len(m)-1].Sign() == 0 {
		m = m[:len(m)-1]
	}
	return m
}

// at returns the coefficient of x^i.
func (m model) at(i int) *big.Rat {
	if i < len(m) {
		return m[i]
	}
	return new(big.Rat)
}

func (m model) add(n model) model {
	c := make(model, max(len(m), len(n)))
	for i := range c {
		c[i] = new(big.Rat).Add(m.at(i), n.at(i))
	}
	return c.cut()
}

func (m model) scale(x *big.Rat) model {
	c := make(model, len(m))
	for i := range m {
		c[i] = new(big.Rat).Mul(m[i], x)
	}
	return c.cut()
}

// up returns m times x^n.
func (m model) up(n int) model {
	var c model
	for range n {
		c = append(c, new(big.Rat))
	}
	return append(c, m...).cut()
}

func (m model) mul(n model) model {
	var c model
	for i, x := range m {
		c = c.add(n.scale(x).up(i))
	}
	return c
}

func (m model) sub(n model) model {
	return m.add(n.scale(big.NewRat(-1, 1)))
}

// div returns the quotient and the rest, for n other than 0.
func (m model) div(n model) (quotient, rest model) {
	for len(m) >= len(n) {
		c := new(big.Rat).Quo(m[len(m)-1], n[len(n)-1])
		step := model{c}.up(len(m) - len(n))
		quotient = quotient.add(step)
		m = m.sub(step.mul(n))
	}
	return quotient, m
}

// monic returns m divided by its last coefficient.
func (m model) monic() model {
	if len(m) == 0 {
		return nil
	}
	return m.scale(new(big.Rat).Inv(m[len(m)-1]))
}

// gcd returns the monic greatest common divisor by Euclid's algorithm.
func (m model) gcd(n model) model {
	for len(n) > 0 {
		_, rest := m.div(n)
		m, n = n, rest.monic()
	}
	return m.monic()
}

func (m model) derive() model {
	var d model
	for i := 1; i < len(m); i++ {
		d = append(d, new(big.Rat).Mul(m[i], big.NewRat(int64(i), 1)))
	}
	return d
}

// free returns the monic polynomial without multiple roots that has the same roots.
func (m model) free() model {
	if len(m) == 0 {
		return nil
	}
	quotient, _ := m.div(m.gcd(m.derive()))
	return quotient.monic()
}

// eval returns the sum of the terms at x.
func (m model) eval(x *big.Rat) *big.Rat {
	sum, power := new(big.Rat), big.NewRat(1, 1)
	for _, c := range m {
		sum.Add(sum, new(big.Rat).Mul(c, power))
		power = new(big.Rat).Mul(power, x)
	}
	return sum
}

// compose returns the sum of the terms with n in place of x.
func (m model) compose(n model) model {
	var sum model
	power := model{big.NewRat(1, 1)}
	for _, c := range m {
		sum = sum.add(power.scale(c))
		power = power.mul(n)
	}
	return sum
}

// text returns the text of m.
func (m model) text() string {
	s := ""
	for i := len(m) - 1; i >= 0; i-- {
		switch {
		case m[i].Sign() == 0:
		case i == 0:
			s += " + " + m[i].RatString()
		case i == 1:
			s += " + " + m[i].RatString() + " x"
		default:
			s += " + " + m[i].RatString() + " x^" + strconv.Itoa(i)
		}
	}
	if s == "" {
		return "0"
	}
	return strings.TrimPrefix(s, " + ")
}
