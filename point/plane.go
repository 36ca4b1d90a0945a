package point

import (
	"linkwork/api"
	"linkwork/tower"
)

// plane computes with numbers and points of its tower. Its methods expect a tower, numbers and points
// that have no errors: then the functions of package tower that they call have none.
type plane struct{ tower api.Tower }

// plus returns a + b.
func (l plane) plus(a, b api.Num) api.Num {
	c, _ := tower.Add(l.tower, a, b)
	return c
}

// minus returns a - b.
func (l plane) minus(a, b api.Num) api.Num {
	c, _ := tower.Sub(l.tower, a, b)
	return c
}

// times returns a * b.
func (l plane) times(a, b api.Num) api.Num {
	c, _ := tower.Mul(l.tower, a, b)
	return c
}

// sign returns the sign of the value of a.
func (l plane) sign(a api.Num) int {
	s, _ := tower.Sign(l.tower, a)
	return s
}

// add returns p + q.
func (l plane) add(p, q api.Point) api.Point {
	return api.Point{X: l.plus(p.X, q.X), Y: l.plus(p.Y, q.Y)}
}

// sub returns p - q.
func (l plane) sub(p, q api.Point) api.Point {
	return api.Point{X: l.minus(p.X, q.X), Y: l.minus(p.Y, q.Y)}
}

// scale returns k * p.
func (l plane) scale(k api.Num, p api.Point) api.Point {
	return api.Point{X: l.times(k, p.X), Y: l.times(k, p.Y)}
}

// turn returns p turned by the angle with a cosine and a sine.
func (l plane) turn(cos, sin api.Num, p api.Point) api.Point {
	return api.Point{
		X: l.minus(l.times(cos, p.X), l.times(sin, p.Y)),
		Y: l.plus(l.times(sin, p.X), l.times(cos, p.Y)),
	}
}

// dot returns the scalar product of p and q.
func (l plane) dot(p, q api.Point) api.Num {
	return l.plus(l.times(p.X, q.X), l.times(p.Y, q.Y))
}

// cross returns X of p times Y of q minus Y of p times X of q.
func (l plane) cross(p, q api.Point) api.Num {
	return l.minus(l.times(p.X, q.Y), l.times(p.Y, q.X))
}
