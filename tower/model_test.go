package tower_test

import (
	"math/big"

	"linkwork/api"
	"linkwork/fraction"
	"linkwork/integer"
)

// The tests compare the package with the chapter's rules written out for lists of math/big, and
// with values in floating point of so many bits that the numbers of the tests leave no doubt.

const (
	precision = 2400
	// tiny is the exponent below which a value counts as 0.
	tiny = -1500
)

// toBig returns the number of x, which has to be valid.
func toBig(x api.Rat) *big.Rat {
	n, d := fraction.Parts(x)
	return new(big.Rat).SetFrac(wholeToBig(n), wholeToBig(d))
}

func wholeToBig(a api.Whole) *big.Int {
	b, ok := new(big.Int).SetString(integer.Text(a), 10)
	if !ok {
		panic("no integer")
	}
	return b
}

// fromBig returns the fraction of x.
func fromBig(x *big.Rat) api.Rat {
	return rat(x.RatString())
}

// model is a list of 2^level fractions.
type model []*big.Rat

// toModel returns the list of a in a tower of some level.
func toModel(a api.Num, level int) model {
	m := make(model, 1<<level)
	for i := range m {
		m[i] = new(big.Rat)
		if i < len(a) {
			m[i] = toBig(a[i])
		}
	}
	return m
}

// fromModel returns the number of a list, not short.
func fromModel(m model) api.Num {
	a := make(api.Num, len(m))
	for i, x := range m {
		a[i] = fromBig(x)
	}
	return a
}

// shortModel returns the short form of m.
func shortModel(m model) model {
	for len(m) > 0 {
		for _, x := range m[len(m)/2:] {
			if x.Sign() != 0 {
				return m
			}
		}
		m = m[:len(m)/2]
	}
	return m
}

// modelSum returns a + c b.
func modelSum(a, b model, c int64) model {
	m := make(model, len(a))
	for i := range m {
		m[i] = new(big.Rat).Mul(b[i], big.NewRat(c, 1))
		m[i].Add(m[i], a[i])
	}
	return m
}

// modelMul returns a * b for lists of 2^level fractions.
func modelMul(t api.Tower, a, b model, level int) model {
	if level == 0 {
		return model{new(big.Rat).Mul(a[0], b[0])}
	}
	half := len(a) / 2
	product := func(x, y model) model { return modelMul(t, x, y, level-1) }
	under := toModel(t.Roots[level-1], level-1)
	first := modelSum(product(a[:half], b[:half]), product(product(a[half:], b[half:]), under), 1)
	second := modelSum(product(a[:half], b[half:]), product(a[half:], b[:half]), 1)
	return append(first, second...)
}

// modelNorm returns x^2 - y^2 d for the halves x and y of a list of 2^level fractions.
func modelNorm(t api.Tower, a model, level int) model {
	half := len(a) / 2
	x, y := a[:half], a[half:]
	under := toModel(t.Roots[level-1], level-1)
	square := modelMul(t, modelMul(t, y, y, level-1), under, level-1)
	return modelSum(modelMul(t, x, x, level-1), square, -1)
}

// modelInverse returns 1 / a by the chapter's rule. The value of a is not 0.
func modelInverse(t api.Tower, a model) model {
	a = shortModel(a)
	if len(a) == 1 {
		return model{new(big.Rat).Inv(a[0])}
	}
	level := 0
	for 1<<level < len(a) {
		level++
	}
	half := len(a) / 2
	n := modelNorm(t, a, level)
	if realSign(realOf(t, fromModel(n))) == 0 {
		return modelInverse(t, modelSum(a[:half], a[:half], 1))
	}
	conjugate := append(append(model{}, a[:half]...), modelSum(zeros(half), a[half:], -1)...)
	return modelMul(t, conjugate, fill(modelInverse(t, n), len(a)), level)
}

// zeros returns n times 0.
func zeros(n int) model {
	return fill(nil, n)
}

// fill returns m with zeros up to the length n.
func fill(m model, n int) model {
	long := append(model{}, m...)
	for len(long) < n {
		long = append(long, new(big.Rat))
	}
	return long
}

// realOf returns the value of a.
func realOf(t api.Tower, a api.Num) *big.Float {
	products := []*big.Float{floating(big.NewRat(1, 1))}
	for _, d := range t.Roots {
		under := weighted(d, products)
		if realSign(under) <= 0 {
			// The value under a root is not below 0, but for rounding.
			under.SetInt64(0)
		}
		s := new(big.Float).SetPrec(precision).Sqrt(under)
		for _, p := range products {
			products = append(products, new(big.Float).SetPrec(precision).Mul(p, s))
		}
	}
	return weighted(a, products)
}

// weighted returns the sum of the products of a's fractions and some numbers.
func weighted(a api.Num, products []*big.Float) *big.Float {
	sum := floating(new(big.Rat))
	for i, x := range a {
		sum.Add(sum, new(big.Float).SetPrec(precision).Mul(floating(toBig(x)), products[i]))
	}
	return sum
}

// floating returns x in floating point.
func floating(x *big.Rat) *big.Float {
	return new(big.Float).SetPrec(precision).SetRat(x)
}

// realSign returns the sign of x, where what is nearly 0 counts as 0.
func realSign(x *big.Float) int {
	if x.Sign() != 0 && x.MantExp(nil) < tiny {
		return 0
	}
	return x.Sign()
}
