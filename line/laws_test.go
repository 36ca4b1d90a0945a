package line_test

import (
	"math/rand"
	"testing"

	"linkwork/api"
	"linkwork/line"
)

// many checks that each kind of input was found often enough for a test to mean something.
func many[K comparable](t *testing.T, found map[K]int, least int, kinds ...K) {
	t.Helper()
	for _, k := range kinds {
		if found[k] < least {
			t.Errorf("too few of %v: %v", k, found)
		}
	}
}

// P13.2: two points lie on the line through them, which is their Join, and its left side is that of the way.
func TestThrough(t *testing.T) {
	r := rand.New(rand.NewSource(10))
	found := map[int]int{}
	for _, s := range settings() {
		u := s.tower
		for i := range rounds(u, 80) {
			l := drawPoints(r, s, 3, 1+i%8)
			p, q, o := l[0], l[1], l[2]
			way, err := line.Through(u, p, q)
			if samePoint(u, p, q) {
				expectErr(t, "Through", u, err, api.ErrZero, ofPoint(p), ofPoint(q))
				expectErr(t, "Join", u, second(line.Join(u, of(t, u, p), of(t, u, q))), api.ErrZero)
				found[2]++
				continue
			}
			checked(t, "Through", u, err, ofLine(way)...)
			expect(t, "Side", u, side(t, u, way, p), 0, ofPoint(p))
			expect(t, "Side", u, side(t, u, way, q), 0, ofPoint(q))
			expectLine(t, "Join", u, join(t, u, of(t, u, p), of(t, u, q)), way)
			left := side(t, u, way, o)
			found[left]++
			expect(t, "Side", u, left, orient(u, p, q, o), ofPoint(p), ofPoint(q), ofPoint(o))
			expect(t, "Side of the way back", u, side(t, u, through(t, u, q, p), o), -left, ofPoint(o))
			expect(t, "On", u, on(t, u, way, of(t, u, o)), left == 0, ofPoint(o))
		}
	}
	many(t, found, 20, -1, 0, 1, 2)
}

// P13.2: two points lie on their Join, and Meet lies on both lines.
func TestIncidence(t *testing.T) {
	r := rand.New(rand.NewSource(11))
	for _, s := range settings() {
		u := s.tower
		for i := range rounds(u, 120) {
			l := drawTriples(r, s, 2, 1+i%8)
			a, b := l[0], l[1]
			if way, err := line.Join(u, asProj(a), asProj(b)); err == nil {
				expect(t, "On", u, on(t, u, way, asProj(a)), true, a, b)
				expect(t, "On", u, on(t, u, way, asProj(b)), true, a, b)
			}
			if p, err := line.Meet(u, asLine(a), asLine(b)); err == nil {
				expect(t, "On", u, on(t, u, asLine(a), p), true, a, b)
				expect(t, "On", u, on(t, u, asLine(b), p), true, a, b)
				back := meet(t, u, asLine(b), asLine(a))
				expect(t, "Same", u, same(t, u, p, back), true, a, b)
			}
		}
	}
}

// P13.2: lines that are parallel meet at infinity, in their direction; others meet in a point of both.
func TestParallels(t *testing.T) {
	r := rand.New(rand.NewSource(12))
	found := map[bool]int{}
	for _, s := range settings() {
		u := s.tower
		for i := range rounds(u, 160) {
			lines := drawLines(r, s, 2, 1+i%8)
			l, m := lines[0], lines[1]
			is, err := line.Parallel(u, l, m)
			p, none := line.Meet(u, l, m)
			if err != nil || none != nil {
				continue
			}
			found[is]++
			q, err := line.Proper(u, p)
			if !is {
				checked(t, "Proper", u, err, ofPoint(q)...)
				expect(t, "Side", u, side(t, u, l, q), 0, ofLine(l), ofLine(m))
				expect(t, "Side", u, side(t, u, m, q), 0, ofLine(l), ofLine(m))
				continue
			}
			expectErr(t, "Proper", u, err, api.ErrInfeasible, ofLine(l), ofLine(m))
			direction := api.Proj{X: neg(u, l.B), Y: l.A}
			expect(t, "Same", u, same(t, u, p, direction), true, ofLine(l), ofLine(m))
			infinity := api.Line{C: num("1")}
			expect(t, "Same", u, same(t, u, p, meet(t, u, m, infinity)), true, ofLine(l), ofLine(m))
		}
	}
	many(t, found, 20, false, true)
}

// P13.3: the foot lies on the line, the way to it is a multiple of the normal, and no point of the line is
// nearer.
func TestFoot(t *testing.T) {
	r := rand.New(rand.NewSource(13))
	for _, s := range settings() {
		u := s.tower
		for i := range rounds(u, 80) {
			l, p := drawLines(r, s, 1, 1+i%8)[0], drawPoint(r, s, 1+i%8)
			if sign(u, l.A) == 0 && sign(u, l.B) == 0 {
				expectErr(t, "Foot", u, second(line.Foot(u, l, p)), api.ErrZero, ofLine(l), ofPoint(p))
				continue
			}
			f := foot(t, u, l, p)
			expect(t, "Side", u, side(t, u, l, f), 0, ofLine(l), ofPoint(p))
			expectPoint(t, "Foot of a foot", u, foot(t, u, l, f), f)
			least := dist2(u, p, f)
			for _, k := range []api.Num{num("1"), num("-1/1000000000"), drawNum(r, s, 4)} {
				q := move(u, f, stretch(u, k, api.Point{X: neg(u, l.B), Y: l.A}))
				expect(t, "Side", u, side(t, u, l, q), 0, ofLine(l), ofPoint(q))
				nearer := sign(u, sub(u, dist2(u, p, q), least))
				want := 1
				if samePoint(u, q, f) {
					want = 0
				}
				expect(t, "the distance", u, nearer, want, ofLine(l), ofPoint(p), ofPoint(q))
			}
		}
	}
}

// P13.3: the foot does not depend on a factor of the line, and it keeps its place on the lines of its normal.
func TestFootKept(t *testing.T) {
	r := rand.New(rand.NewSource(14))
	for _, s := range settings() {
		u := s.tower
		for i := range rounds(u, 40) {
			l := drawPoints(r, s, 3, 1+i%6)
			p, q, o, k := l[0], l[1], l[2], drawNum(r, s, 3)
			way, err := line.Through(u, p, q)
			if err != nil {
				continue
			}
			f := foot(t, u, way, o)
			if sign(u, k) != 0 {
				scaled := api.Line{A: mul(u, k, way.A), B: mul(u, k, way.B), C: mul(u, k, way.C)}
				expectPoint(t, "Foot on a multiple", u, foot(t, u, scaled, o), f)
			}
			beside := move(u, o, stretch(u, k, api.Point{X: way.A, Y: way.B}))
			expectPoint(t, "Foot of a point of the normal", u, foot(t, u, way, beside), f)
		}
	}
}

// P13.4: three points are collinear exactly if the third one lies on the Join of two that are not the same.
func TestCollinear(t *testing.T) {
	r := rand.New(rand.NewSource(15))
	found := map[bool]int{}
	for _, s := range settings() {
		u := s.tower
		for i := range rounds(u, 160) {
			l := drawProjs(r, s, 3, 1+i%6)
			is := collinear(t, u, l[0], l[1], l[2])
			for k := range 3 {
				p, q, o := l[k], l[(k+1)%3], l[(k+2)%3]
				expect(t, "Collinear", u, collinear(t, u, p, q, o), is, ofProj(p), ofProj(q), ofProj(o))
				expect(t, "Collinear", u, collinear(t, u, q, p, o), is, ofProj(q), ofProj(p), ofProj(o))
				expect(t, "Collinear", u, collinear(t, u, p, q, p), true, ofProj(p), ofProj(q))
				if way, err := line.Join(u, p, q); err == nil {
					found[is]++
					expect(t, "On", u, on(t, u, way, o), is, ofProj(p), ofProj(q), ofProj(o))
				} else {
					expect(t, "Collinear with no Join", u, is, true, ofProj(p), ofProj(q), ofProj(o))
				}
			}
		}
	}
	many(t, found, 40, false, true)
}

// P13.1: Proper takes back what Of does; the same points have the same place.
func TestPlaces(t *testing.T) {
	r := rand.New(rand.NewSource(16))
	found := map[bool]int{}
	for _, s := range settings() {
		u := s.tower
		for i := range rounds(u, 80) {
			p := drawPoint(r, s, 1+i%8)
			expectPoint(t, "Proper of Of", u, proper(t, u, of(t, u, p)), p)
			l := drawProjs(r, s, 2, 1+i%8)
			first, err := line.Proper(u, l[0])
			if err != nil {
				continue
			}
			expect(t, "Same", u, same(t, u, l[0], of(t, u, first)), true, ofProj(l[0]))
			if next, err := line.Proper(u, l[1]); err == nil {
				is := samePoint(u, first, next)
				found[is]++
				expect(t, "Same", u, same(t, u, l[0], l[1]), is, ofProj(l[0]), ofProj(l[1]))
			}
		}
	}
	many(t, found, 20, false, true)
}
