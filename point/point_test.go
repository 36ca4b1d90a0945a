package point_test

import (
	"math/big"
	"math/rand"
	"testing"

	"linkwork/api"
	"linkwork/point"
	"linkwork/tower"
)

// P11.1: the examples of the chapter.
func TestExamples(t *testing.T) {
	none, two := api.Tower{}, roots("2")
	expectNum(t, "Cross", none, cross(t, none, pt("1, 2"), pt("3, 4")), num("-2"))
	expect(t, "Orient", none, orient(t, none, pt("0, 0"), pt("1, 0"), pt("0, 1")), 1)
	expectNum(t, "Dist2", two, dist2(t, two, pt("0, 0"), pt("0 1, 1")), num("3"))
}

// P11.1: results that are known, some of them in towers.
func TestKnown(t *testing.T) {
	u := roots("2", "3 0")
	p, q := pt("1 1, 0 0 1 0"), pt("-1 1, 0 0 2 0")
	expectPoint(t, "Of", u, point.Of(rat("-3/2"), rat("7")), pt("-3/2, 7"))
	expectPoint(t, "Add", u, plus(t, u, p, q), pt("0 2, 0 0 3 0"))
	expectPoint(t, "Sub", u, minus(t, u, p, q), pt("2, 0 0 -1 0"))
	expectPoint(t, "Scale", u, scale(t, u, num("0 1"), p), pt("2 1, 0 0 0 1"))
	expectPoint(t, "Turn", u, turn(t, u, num("0 1"), num("1"), p), pt("2 1 -1 0, 1 1 0 1"))
	expectPoint(t, "a quarter turn", u, turn(t, u, nil, num("1"), pt("3, 4")), pt("-4, 3"))
	expectNum(t, "Dot", u, dot(t, u, p, q), num("7"))
	expectNum(t, "Cross", u, cross(t, u, p, q), num("0 0 3 1"))
	expectNum(t, "Cross", u, cross(t, u, q, p), num("0 0 -3 -1"))
	expectNum(t, "Dist2", u, dist2(t, u, p, q), num("7"))
	b := api.Placed{Cos: num("0 1/2"), Sin: num("0 1/2"), X: num("0 0 1 0"), Y: num("5")}
	expectPoint(t, "At", u, at(t, u, b, rat("3"), rat("1")), pt("0 1 1 0, 5 2"))
	expectPoint(t, "At the origin", u, at(t, u, b, rat("0"), rat("0")), pt("0 0 1 0, 5"))
	expectPoint(t, "At", u, at(t, u, api.Placed{Cos: num("0"), Sin: num("1")}, rat("2"), rat("3")), pt("-3, 2"))
	expectPoint(t, "At without a rotation", u, at(t, u, api.Placed{X: num("2"), Y: num("0 1")}, rat("2"), rat("3")), pt("2, 0 1"))
}

// P11.1: Orient, Same and Between for points without roots.
func TestPositions(t *testing.T) {
	none := api.Tower{}
	for _, c := range []struct {
		p, q, r string
		orient  int
		between bool
	}{
		{"0, 0", "2, 0", "1, 1/1000000000000", 1, false},
		{"0, 0", "2, 0", "1, -1/1000000000000", -1, false},
		{"0, 0", "2, 0", "1, 0", 0, true},
		{"0, 0", "2, 0", "0, 0", 0, true},
		{"0, 0", "2, 0", "2, 0", 0, true},
		{"0, 0", "2, 0", "2000000000001/1000000000000, 0", 0, false},
		{"0, 0", "2, 0", "-1/1000000000000, 0", 0, false},
		{"1, 1", "4, 7", "2, 3", 0, true},
		{"1, 1", "4, 7", "3, 4", -1, false},
		{"4, 7", "1, 1", "3, 4", 1, false},
		{"1, 1", "1, 5", "1, 3", 0, true},
		{"1, 1", "1, 5", "1, 6", 0, false},
		{"1, 1", "1, 5", "0, 3", 1, false},
		{"1, 1", "1, 1", "1, 1", 0, true},
		{"1, 1", "1, 1", "1, 2", 0, false},
		{"1, 1", "1, 1", "2, 1", 0, false},
		{"0, 1", "1, 0", "1/3, 2/3", 0, true},
		{"0, 1", "1, 0", "-1/3, 4/3", 0, false},
		{"0, 0", "0, 0", "0, 0", 0, true},
		{",", ",", "0, 0", 0, true},
	} {
		p, q, r := pt(c.p), pt(c.q), pt(c.r)
		expect(t, "Orient", none, orient(t, none, p, q, r), c.orient, p, q, r)
		expect(t, "Between", none, between(t, none, p, q, r), c.between, p, q, r)
	}
	for _, c := range []struct {
		p, q string
		same bool
	}{
		{"1, 2", "1, 2", true}, {"1, 2", "1, 3", false}, {"1, 2", "3, 2", false}, {"1, 2", "2, 1", false},
		{"0, 0", ",", true}, {"0, 1", "0, 1000000000001/1000000000000", false}, {"1, 1", "-1, -1", false},
	} {
		expect(t, "Same", none, same(t, none, pt(c.p), pt(c.q)), c.same, pt(c.p), pt(c.q))
	}
}

// P11.1: the same for points whose coordinates have roots, which approximations do not tell apart.
func TestPositionsInTowers(t *testing.T) {
	// Both are above the root of 2, by less than 2^-38 and by less than 2^-158.
	near, nearer := "665857/470832", "1572584048032918633353217/1111984844349868137938112"
	for _, c := range []struct {
		u             api.Tower
		p, q, r       string
		orient        int
		between, same bool // same: that q and r are equal
	}{
		{roots("2"), "0, 0", "0 1, 1", "2, 0 1", 0, false, false},
		{roots("2"), "0, 0", "2, 0 1", "0 1, 1", 0, true, false},
		{roots("2"), "0, 0", "1, 0 1", "1, " + near, 1, false, false},
		{roots("2"), "0, 0", "1, " + nearer, "1, 0 1", -1, false, false},
		{roots("2"), "0, 0", "0, 0 1", "0, " + nearer, 0, false, false},
		{roots("2"), "0, 0", "0, " + nearer, "0, 0 1", 0, true, false},
		{roots("4"), "0, 0", "0 1, 1", "2, 1", 0, true, true},
		{roots("4"), "0, 0", "0 1, 1", "2 0, 3 -1", 0, true, true},
		{roots("4"), "0 1, 0", "2, 0", "4 -1, 2 -1", 0, true, true},
		{roots("4"), "2 -1, 0", "0 2, 1", "2, 0 1/4", 0, true, false},
		{roots("0"), "0 7, 0", "1, 0 1", "1 5, 0", 0, true, true},
		{roots("2", "3 2"), "0, 0", "0 0 1 0, 1", "1 1 0 0, 1 0", 0, true, true},
		{roots("2", "3 2"), "0, 0", "0 0 1 0, 1", "1 2, 1", -1, false, false},
		{roots("2", "3 0", "6 0 0 0"), "0, 0", "0 1, 0 0 0 0 1 0 0 0", "2, 0 0 2 0", 0, false, false},
		{roots("2", "3 0", "5 0 0 2"), "0 1, 0 0 -1 0", "0 0 0 0 1 0 0 0, 0", "0 1 1 0, 0 0 0 0", 0, true, true},
	} {
		p, q, r := pt(c.p), pt(c.q), pt(c.r)
		expect(t, "Orient", c.u, orient(t, c.u, p, q, r), c.orient, p, q, r)
		expect(t, "Between", c.u, between(t, c.u, p, q, r), c.between, p, q, r)
		expect(t, "Same", c.u, same(t, c.u, q, r), c.same, q, r)
		expect(t, "Same", c.u, same(t, c.u, r, q), c.same, r, q)
	}
}

// P11.1: all functions against their definitions, written out with the functions of layer 4.
func TestDefinitions(t *testing.T) {
	r := rand.New(rand.NewSource(1))
	for _, s := range settings() {
		u := s.tower
		for i := range rounds(u, 60) {
			l := drawPoints(r, s, 3, 1+i%20)
			p, q, o := l[0], l[1], l[2]
			k, c := drawNum(r, s, 3), drawNum(r, s, 3)
			expectPoint(t, "Add", u, plus(t, u, p, q), api.Point{X: add(u, p.X, q.X), Y: add(u, p.Y, q.Y)})
			expectPoint(t, "Sub", u, minus(t, u, p, q), api.Point{X: sub(u, p.X, q.X), Y: sub(u, p.Y, q.Y)})
			expectPoint(t, "Scale", u, scale(t, u, k, p), api.Point{X: mul(u, k, p.X), Y: mul(u, k, p.Y)})
			turned := api.Point{X: sub(u, mul(u, k, p.X), mul(u, c, p.Y)), Y: add(u, mul(u, c, p.X), mul(u, k, p.Y))}
			expectPoint(t, "Turn", u, turn(t, u, k, c, p), turned)
			expectNum(t, "Dot", u, dot(t, u, p, q), add(u, mul(u, p.X, q.X), mul(u, p.Y, q.Y)))
			expectNum(t, "Cross", u, cross(t, u, p, q), sub(u, mul(u, p.X, q.Y), mul(u, p.Y, q.X)))
			expectNum(t, "Dist2", u, dist2(t, u, p, q), modelDist2(u, p, q))
			expect(t, "Orient", u, orient(t, u, p, q, o), sign(u, modelArea(u, p, q, o)), p, q, o)
			expect(t, "Same", u, same(t, u, p, q), cmp(u, p.X, q.X) == 0 && cmp(u, p.Y, q.Y) == 0, p, q)
			expect(t, "Between", u, between(t, u, p, q, o), modelBetween(u, p, q, o), p, q, o)
			x, y := drawRat(r, 9), drawRat(r, 9)
			moved := turn(t, u, k, c, api.Point{X: tower.Of(x), Y: tower.Of(y)})
			want := api.Point{X: add(u, moved.X, q.X), Y: add(u, moved.Y, q.Y)}
			expectPoint(t, "At", u, at(t, u, api.Placed{Cos: k, Sin: c, X: q.X, Y: q.Y}, x, y), want)
		}
	}
}

// P11.1: all functions against math/big, in towers whose roots are known fractions.
func TestFractions(t *testing.T) {
	r := rand.New(rand.NewSource(2))
	for _, s := range squareTowers() {
		for i := range rounds(s.tower, 200) {
			l := drawPoints(r, setting{tower: s.tower}, 3, 1+i%20)
			checkProducts(t, s, l[0], l[1])
			checkPositions(t, s, l[0], l[1], l[2])
			k := drawNum(r, setting{tower: s.tower}, 5)
			checkTurned(t, s, api.Placed{Cos: k, Sin: l[1].X, X: l[0].X, Y: l[0].Y}, drawRat(r, 9), drawRat(r, 9))
		}
	}
}

// expectBig compares the value of a number with the wanted one.
func expectBig(t *testing.T, what string, s squares, got api.Num, want *big.Rat) {
	t.Helper()
	if s.value(got).Cmp(want) != 0 {
		t.Fatalf("%s in %s: %s, not %s", what, showTower(s.tower), show(got), want)
	}
}

// checkProducts checks the sum, the difference and the products of p and q.
func checkProducts(t *testing.T, s squares, p, q api.Point) {
	t.Helper()
	a, b := s.values(p), s.values(q)
	sum, difference, scaled := plus(t, s.tower, p, q), minus(t, s.tower, p, q), scale(t, s.tower, q.X, p)
	expectBig(t, "X of Add", s, sum.X, plusBig(a.x, b.x))
	expectBig(t, "Y of Add", s, sum.Y, plusBig(a.y, b.y))
	expectBig(t, "X of Sub", s, difference.X, minusBig(a.x, b.x))
	expectBig(t, "Y of Sub", s, difference.Y, minusBig(a.y, b.y))
	expectBig(t, "X of Scale", s, scaled.X, timesBig(b.x, a.x))
	expectBig(t, "Y of Scale", s, scaled.Y, timesBig(b.x, a.y))
	expectBig(t, "Dot", s, dot(t, s.tower, p, q), plusBig(timesBig(a.x, b.x), timesBig(a.y, b.y)))
	expectBig(t, "Cross", s, cross(t, s.tower, p, q), minusBig(timesBig(a.x, b.y), timesBig(a.y, b.x)))
	x, y := minusBig(a.x, b.x), minusBig(a.y, b.y)
	expectBig(t, "Dist2", s, dist2(t, s.tower, p, q), plusBig(timesBig(x, x), timesBig(y, y)))
}

// checkPositions checks Orient, Same and Between.
func checkPositions(t *testing.T, s squares, p, q, r api.Point) {
	t.Helper()
	a, b, c := s.values(p), s.values(q), s.values(r)
	expect(t, "Orient", s.tower, orient(t, s.tower, p, q, r), a.area(b, c).Sign(), p, q, r)
	expect(t, "Same", s.tower, same(t, s.tower, p, q), a.x.Cmp(b.x) == 0 && a.y.Cmp(b.y) == 0, p, q)
	expect(t, "Between", s.tower, between(t, s.tower, p, q, r), c.isBetween(a, b), p, q, r)
}

// checkTurned checks Turn and At.
func checkTurned(t *testing.T, s squares, b api.Placed, x, y api.Rat) {
	t.Helper()
	cos, sin, u, v := s.value(b.Cos), s.value(b.Sin), toBig(x), toBig(y)
	first := minusBig(timesBig(cos, u), timesBig(sin, v))
	second := plusBig(timesBig(sin, u), timesBig(cos, v))
	p := turn(t, s.tower, b.Cos, b.Sin, point.Of(x, y))
	expectBig(t, "X of Turn", s, p.X, first)
	expectBig(t, "Y of Turn", s, p.Y, second)
	p = at(t, s.tower, b, x, y)
	expectBig(t, "X of At", s, p.X, plusBig(first, s.value(b.X)))
	expectBig(t, "Y of At", s, p.Y, plusBig(second, s.value(b.Y)))
}
