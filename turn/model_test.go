package turn_test

import (
	"math/big"
	"testing"

	"linkwork/api"
)

// model is a turn by the tangent of half of its angle; nil for half a turn.
type model struct{ t *big.Rat }

// modelOf returns the model of a, which has to be valid.
func modelOf(t *testing.T, a api.Turn) model {
	t.Helper()
	b := toBig(t, a.T)
	if !a.Half {
		return model{b}
	}
	if b.Sign() != 0 {
		t.Fatalf("half a turn is not valid: %v", a)
	}
	return model{}
}

// turn returns the turn of a.
func (a model) turn() api.Turn {
	if a.t == nil {
		return api.Turn{Half: true}
	}
	return api.Turn{T: rat(a.t.RatString())}
}

func plus(a, b *big.Rat) *big.Rat  { return new(big.Rat).Add(a, b) }
func minus(a, b *big.Rat) *big.Rat { return new(big.Rat).Sub(a, b) }
func times(a, b *big.Rat) *big.Rat { return new(big.Rat).Mul(a, b) }
func over(a, b *big.Rat) *big.Rat  { return new(big.Rat).Quo(a, b) }
func whole(n int64) *big.Rat       { return big.NewRat(n, 1) }

// cosSin returns the cosine and the sine, as the chapter defines them.
func (a model) cosSin() (c, s *big.Rat) {
	if a.t == nil {
		return whole(-1), whole(0)
	}
	square := times(a.t, a.t)
	size := plus(whole(1), square)
	return over(minus(whole(1), square), size), over(times(whole(2), a.t), size)
}

// add returns the rotation by both angles, by the cases of the chapter.
func (a model) add(b model) model {
	switch {
	case a.t == nil && b.t == nil:
		return model{whole(0)}
	case b.t == nil:
		return b.add(a)
	case a.t == nil && b.t.Sign() == 0:
		return model{}
	case a.t == nil:
		return model{over(whole(-1), b.t)}
	}
	rest := minus(whole(1), times(a.t, b.t))
	if rest.Sign() == 0 {
		return model{}
	}
	return model{over(plus(a.t, b.t), rest)}
}

// neg returns the opposite rotation.
func (a model) neg() model {
	if a.t == nil {
		return a
	}
	return model{new(big.Rat).Neg(a.t)}
}

// quarter returns in which quarter of the circle a is: 0 to 3, each with its first bound.
func (a model) quarter() int {
	switch c, s := a.cosSin(); {
	case c.Sign() > 0 && s.Sign() >= 0:
		return 0
	case c.Sign() <= 0 && s.Sign() > 0:
		return 1
	case c.Sign() < 0:
		return 2
	}
	return 3
}

// cmp compares the angles by their quarters, and in a quarter by the sine of their difference.
func (a model) cmp(b model) int {
	if q, r := a.quarter(), b.quarter(); q != r {
		if q < r {
			return -1
		}
		return 1
	}
	c, s := a.cosSin()
	d, u := b.cosSin()
	return minus(times(s, d), times(c, u)).Sign()
}

// inside reports whether x is in the arc from a to b: whether the way from a to x is at most that to b.
func (a model) inside(b, x model) bool {
	way := b.add(a.neg())
	return way.cmp(model{whole(0)}) == 0 || x.add(a.neg()).cmp(way) <= 0
}

// between returns a turn in the arc from a to b, by the cases of the chapter.
func (a model) between(b model) model {
	way := b.add(a.neg())
	switch {
	case way.t == nil:
		return a.add(model{whole(1)})
	case way.t.Sign() > 0:
		return a.add(model{over(way.t, whole(2))})
	}
	return a.add(model{})
}

// apply returns the coordinates of the place (x, y), rotated by a.
func (a model) apply(x, y *big.Rat) (u, v *big.Rat) {
	c, s := a.cosSin()
	return minus(times(c, x), times(s, y)), plus(times(s, x), times(c, y))
}

// towardModel returns the turn by twice the angle of (x, y), from the cosine and the sine of the chapter.
func towardModel(x, y *big.Rat) model {
	size := plus(times(x, x), times(y, y))
	c, s := over(minus(times(x, x), times(y, y)), size), over(times(whole(2), times(x, y)), size)
	if s.Sign() == 0 && c.Sign() < 0 {
		return model{}
	}
	// The tangent of half of an angle is sin / (1 + cos).
	return model{over(s, plus(whole(1), c))}
}
