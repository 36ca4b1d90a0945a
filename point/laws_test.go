package point_test

import (
	"math/rand"
	"testing"

	"linkwork/api"
	"linkwork/point"
	"linkwork/tower"
)

// P11.2: both products are linear in each argument.
func TestLinear(t *testing.T) {
	r := rand.New(rand.NewSource(10))
	for _, s := range settings() {
		u := s.tower
		for i := range rounds(u, 40) {
			l := drawPoints(r, s, 3, 1+i%12)
			k, m := drawNum(r, s, 4), drawNum(r, s, 4)
			sum := plus(t, u, scale(t, u, k, l[0]), scale(t, u, m, l[1]))
			weighted := func(a, b api.Num) api.Num { return add(u, mul(u, k, a), mul(u, m, b)) }
			for name, product := range map[string]func(*testing.T, api.Tower, api.Point, api.Point) api.Num{"Dot": dot, "Cross": cross} {
				first := weighted(product(t, u, l[0], l[2]), product(t, u, l[1], l[2]))
				second := weighted(product(t, u, l[2], l[0]), product(t, u, l[2], l[1]))
				expectNum(t, name+" in its first argument", u, product(t, u, sum, l[2]), first)
				expectNum(t, name+" in its second argument", u, product(t, u, l[2], sum), second)
			}
		}
	}
}

// P11.2: the squares of both products have the product of the squared lengths as their sum.
func TestSquaredProducts(t *testing.T) {
	r := rand.New(rand.NewSource(11))
	for _, s := range settings() {
		u := s.tower
		for i := range rounds(u, 40) {
			l := drawPoints(r, s, 2, 1+i%12)
			p, q, origin := l[0], l[1], api.Point{}
			d, c := dot(t, u, p, q), cross(t, u, p, q)
			lengths := mul(u, dot(t, u, p, p), dot(t, u, q, q))
			expectNum(t, "Dot^2 + Cross^2", u, add(u, mul(u, d, d), mul(u, c, c)), lengths)
			expectNum(t, "squared lengths", u, mul(u, dist2(t, u, origin, p), dist2(t, u, q, origin)), lengths)
			expectNum(t, "Dot exchanged", u, dot(t, u, q, p), d)
			expectNum(t, "Cross exchanged", u, cross(t, u, q, p), neg(u, c))
			expectNum(t, "Cross of a vector and itself", u, cross(t, u, p, p), nil)
			expectNum(t, "Dist2 exchanged", u, dist2(t, u, q, p), dist2(t, u, p, q))
		}
	}
}

// P11.3: Orient changes its sign if two of its points are exchanged.
func TestExchanged(t *testing.T) {
	r := rand.New(rand.NewSource(12))
	found := map[int]int{}
	for _, s := range settings() {
		u := s.tower
		for i := range rounds(u, 60) {
			l := drawPoints(r, s, 3, 1+i%12)
			a, b, c := l[0], l[1], l[2]
			o := orient(t, u, a, b, c)
			found[o]++
			for _, even := range [][3]api.Point{{a, b, c}, {b, c, a}, {c, a, b}} {
				x, y, z := even[0], even[1], even[2]
				expect(t, "Orient", u, orient(t, u, x, y, z), o, x, y, z)
				expect(t, "Orient", u, orient(t, u, y, x, z), -o, y, x, z)
			}
			expect(t, "Orient of two equal points", u, orient(t, u, a, b, a), 0, a, b, a)
			expect(t, "Orient of two equal points", u, orient(t, u, a, a, c), 0, a, a, c)
			expect(t, "Orient of two equal points", u, orient(t, u, b, c, c), 0, b, c, c)
			if o != 0 && between(t, u, a, b, c) {
				t.Fatalf("%s is not on a line with %s and %s", showPoint(c), showPoint(a), showPoint(b))
			}
		}
	}
	if min(found[-1], found[0], found[1]) < 40 {
		t.Errorf("too few kinds of points: %v", found)
	}
}

// P11.3: a point is between two others exactly if it has the distances that sum up.
func TestDistances(t *testing.T) {
	r := rand.New(rand.NewSource(13))
	found := map[bool]int{}
	for _, s := range settings() {
		u := s.tower
		for i := range rounds(u, 60) {
			l := drawPoints(r, s, 3, 1+i%12)
			p, q, o := l[0], l[1], l[2]
			is := between(t, u, p, q, o)
			found[is]++
			a, b, c := dist2(t, u, p, o), dist2(t, u, o, q), dist2(t, u, p, q)
			rest := sub(u, c, add(u, a, b))
			sums := sign(u, rest) >= 0 && cmp(u, mul(u, rest, rest), mul(u, num("4"), mul(u, a, b))) == 0
			expect(t, "Between", u, is, sums, p, q, o)
			expect(t, "Between with exchanged ends", u, between(t, u, q, p, o), is, p, q, o)
			expect(t, "Between at an end", u, between(t, u, p, q, p) && between(t, u, p, q, q), true, p, q)
			expect(t, "Between of equal ends", u, between(t, u, p, p, o), same(t, u, p, o), p, o)
		}
	}
	if min(found[false], found[true]) < 40 {
		t.Errorf("too few kinds of points: %v", found)
	}
}

// P11.3: the points of a line by the part of the way from p to q.
func TestParts(t *testing.T) {
	r := rand.New(rand.NewSource(14))
	parts := func(u api.Tower) []api.Num {
		l := []api.Num{nil, num("1"), num("1/2"), num("-1/1000000000"), num("1000000001/1000000000"), num("7"), num("-1")}
		for k := range u.Roots {
			l = append(l, fine(tower.Root(u, k)), sub(u, num("2"), fine(tower.Root(u, k))))
		}
		return l
	}
	for _, s := range settings() {
		u := s.tower
		for _, k := range parts(u) {
			p, q := drawPoint(r, s, 6), drawPoint(r, s, 6)
			if same(t, u, p, q) {
				continue
			}
			o := modelWay(u, p, q, k)
			within := sign(u, k) >= 0 && cmp(u, k, num("1")) <= 0
			expect(t, "Between", u, between(t, u, p, q, o), within, p, q, o)
			expect(t, "Orient", u, orient(t, u, p, q, o), 0, p, q, o)
			expectNum(t, "the squared part", u, dist2(t, u, p, o), mul(u, mul(u, k, k), dist2(t, u, p, q)))
		}
	}
}

// rotation is a tower with the cosine and the sine of an angle.
type rotation struct {
	s        setting
	cos, sin api.Num
}

// rotations returns rotations by fractions, by numbers of towers, and by numbers with several lists.
func rotations() []rotation {
	of := func(u api.Tower, cos, sin string, nulls ...api.Num) rotation {
		return rotation{setting{u, nulls}, num(cos), num(sin)}
	}
	return []rotation{
		of(api.Tower{}, "1", "0"), of(api.Tower{}, "0", "-1"), of(api.Tower{}, "-1", ""), of(api.Tower{}, "3/5", "-4/5"),
		of(api.Tower{}, "-5/13", "12/13"), of(roots("2"), "0 1/2", "0 -1/2"), of(roots("3"), "-1/2", "0 1/2"),
		of(roots("2"), "1/3", "0 2/3"), of(roots("16/25"), "3/5", "0 1", num("4 -5")),
		of(roots("0"), "1 7", "0 -3", num("0 1")), of(roots("5", "10 2"), "-1/4 1/4", "0 0 1/4 0"),
		of(roots("2", "2 1", "2 -1 0 0"), "0 0 1/2 0", "0 0 0 0 1/2 0 0 0"),
		// The root of 6 is the product of the others in the cosine, a root of its own in the sine.
		of(roots("2", "3 0", "6 0 0 0"), "0 1/4 0 1/4", "0 -1/4 0 0 1/4 0 0 0", num("0 0 0 1 -1 0 0 0")),
	}
}

// P11.4: a body that is placed with a rotation keeps squared distances and orientations.
func TestKept(t *testing.T) {
	r := rand.New(rand.NewSource(15))
	for _, c := range rotations() {
		u := c.s.tower
		expectNum(t, "Cos^2 + Sin^2", u, add(u, mul(u, c.cos, c.cos), mul(u, c.sin, c.sin)), num("1"))
		for i := range 12 {
			b := api.Placed{Cos: c.cos, Sin: c.sin, X: drawNum(r, c.s, 9), Y: drawNum(r, c.s, 9)}
			l, places := []api.Point{}, []api.Point{}
			for range 3 {
				x, y := drawRat(r, 1+i), drawRat(r, 1+i)
				l, places = append(l, point.Of(x, y)), append(places, at(t, u, b, x, y))
			}
			for k := range l {
				m := (k + 1) % 3
				expectNum(t, "Dist2", u, dist2(t, u, places[k], places[m]), dist2(t, u, l[k], l[m]))
			}
			expect(t, "Orient", u, orient(t, u, places[0], places[1], places[2]), orient(t, u, l[0], l[1], l[2]), l...)
			expect(t, "Between", u, between(t, u, places[0], places[1], places[2]), between(t, u, l[0], l[1], l[2]), l...)
		}
	}
}

// P11.4: vectors that are turned keep their products, and turn back.
func TestTurned(t *testing.T) {
	r := rand.New(rand.NewSource(16))
	for _, c := range rotations() {
		u := c.s.tower
		for i := range 6 {
			p, q := drawPoint(r, c.s, 1+i), drawPoint(r, c.s, 1+i)
			a, b := turn(t, u, c.cos, c.sin, p), turn(t, u, c.cos, c.sin, q)
			expectNum(t, "Dot", u, dot(t, u, a, b), dot(t, u, p, q))
			expectNum(t, "Cross", u, cross(t, u, a, b), cross(t, u, p, q))
			expectPoint(t, "turned back", u, turn(t, u, c.cos, neg(u, c.sin), a), p)
			// The angle from the old to the new vector is that of the rotation.
			length := dot(t, u, p, p)
			expectNum(t, "the cosine", u, dot(t, u, p, a), mul(u, c.cos, length))
			expectNum(t, "the sine", u, cross(t, u, p, a), mul(u, c.sin, length))
		}
	}
}
