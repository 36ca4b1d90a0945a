package line

import (
	"linkwork/api"
	"linkwork/fraction"
	"linkwork/point"
	"linkwork/tower"
)

// triple is a line (A, B, C) or a homogeneous point (X, Y, W): what holds for lines through points holds
// for points on lines.
//
// The functions that compute with triples expect a tower and numbers that have no errors: then the
// functions of lower layers that they call have none.
type triple [3]api.Num

func ofLine(l api.Line) triple {
	return triple{l.A, l.B, l.C}
}

func ofProj(p api.Proj) triple {
	return triple{p.X, p.Y, p.W}
}

func ofPoint(p api.Point) triple {
	return triple{p.X, p.Y, tower.Of(fraction.Of(1))}
}

func (a triple) line() api.Line {
	return api.Line{A: a[0], B: a[1], C: a[2]}
}

func (a triple) proj() api.Proj {
	return api.Proj{X: a[0], Y: a[1], W: a[2]}
}

// check returns the error of t, or the first one of the numbers of some triples, of which there is at least
// one.
func check(t api.Tower, triples ...triple) error {
	for _, a := range triples {
		for i := range 3 {
			// Neg has the error of the tower, then that of the number, and no other ones.
			if _, err := tower.Neg(t, a[i]); err != nil {
				return err
			}
		}
	}
	return nil
}

// cross returns the three 2 by 2 determinants of a and b: the line through two points, the point on two
// lines.
func cross(t api.Tower, a, b triple) triple {
	var c triple
	for i := range 3 {
		c[i] = minor(t, a, b, (i+1)%3, (i+2)%3)
	}
	return c
}

// minor returns the determinant of the numbers j and k of a and b.
func minor(t api.Tower, a, b triple, j, k int) api.Num {
	d, _ := point.Cross(t, api.Point{X: a[j], Y: a[k]}, api.Point{X: b[j], Y: b[k]})
	return d
}

// dot returns the sum of the products of the numbers of a and b, which is 0 exactly if the point is on the line.
func dot(t api.Tower, a, b triple) api.Num {
	var sum api.Num
	for i := range 3 {
		product, _ := tower.Mul(t, a[i], b[i])
		sum, _ = tower.Add(t, sum, product)
	}
	return sum
}

// place returns the point (X / W, Y / W), and ErrZero if W is 0.
func place(t api.Tower, a triple) (api.Point, error) {
	// Two quotients are found faster than the inverse, whose fractions are long, and two products with it.
	x, err := tower.Div(t, a[0], a[2])
	if err != nil {
		return api.Point{}, err
	}
	y, _ := tower.Div(t, a[1], a[2])
	return api.Point{X: x, Y: y}, nil
}

// isNone reports whether all three numbers are 0.
func isNone(t api.Tower, a triple) bool {
	for i := range 3 {
		if !isZero(t, a[i]) {
			return false
		}
	}
	return true
}

// isProper reports whether a line is proper.
func isProper(t api.Tower, a triple) bool {
	return !isZero(t, a[0]) || !isZero(t, a[1])
}

// isZero reports whether the value of a is 0.
func isZero(t api.Tower, a api.Num) bool {
	return sign(t, a) == 0
}

// sign returns the sign of the value of a.
func sign(t api.Tower, a api.Num) int {
	s, _ := tower.Sign(t, a)
	return s
}
