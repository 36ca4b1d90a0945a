package turn

import (
	"linkwork/api"
	"linkwork/fraction"
	"linkwork/integer"
)

// gauss is the number x + i y, a Gaussian integer. Products have the sums of the angles, so a number at
// half of the angle of a turn is as good as the tangent, and there is one for half a turn too. As they
// are integers, common divisors need to be looked for only in results.
type gauss struct{ x, y api.Whole }

// halfway returns a number at half of the angle of a.
func halfway(a api.Turn) gauss {
	if a.Half {
		return gauss{y: integer.Of(1)}
	}
	n, d := fraction.Parts(a.T)
	return gauss{d, n}
}

// direction returns d times the number Cos + i Sin of a, for a d above 0, and d.
func direction(a api.Turn) (z gauss, d api.Whole) {
	z = halfway(a)
	return z.times(z), z.norm()
}

// integral returns d times the number x + i y of p, for a d above 0, and d.
func integral(p api.Place) (z gauss, d api.Whole) {
	n, e := fraction.Parts(p.X)
	m, f := fraction.Parts(p.Y)
	return gauss{integer.Mul(n, f), integer.Mul(m, e)}, integer.Mul(e, f)
}

// times returns z w.
func (z gauss) times(w gauss) gauss {
	return gauss{
		x: integer.Sub(integer.Mul(z.x, w.x), integer.Mul(z.y, w.y)),
		y: integer.Add(integer.Mul(z.x, w.y), integer.Mul(z.y, w.x)),
	}
}

// norm returns the square of the absolute value of z.
func (z gauss) norm() api.Whole {
	return integer.Add(integer.Mul(z.x, z.x), integer.Mul(z.y, z.y))
}

// twice returns the turn by twice the angle of z.
func (z gauss) twice() api.Turn {
	tangent, err := fraction.From(z.y, z.x)
	if err != nil {
		// x is 0: the angle is a quarter, to the left or to the right.
		return api.Turn{Half: true}
	}
	return api.Turn{T: tangent}
}

// over returns the place of z / d, for d above 0.
func (z gauss) over(d api.Whole) api.Place {
	x, _ := fraction.From(z.x, d)
	y, _ := fraction.From(z.y, d)
	return api.Place{X: x, Y: y}
}
