package line_test

import (
	"math/rand"
	"slices"
	"strings"
	"testing"

	"linkwork/api"
	"linkwork/fraction"
	"linkwork/line"
	"linkwork/point"
	"linkwork/tower"
)

// rat returns the fraction of a text.
func rat(s string) api.Rat {
	return fine(fraction.Parse(s))
}

// num returns the number whose fractions are in a text with spaces.
func num(s string) api.Num {
	var a api.Num
	for _, c := range strings.Fields(s) {
		a = append(a, rat(c))
	}
	return a
}

// nums returns the numbers of a text with commas, of which there have to be n.
func nums(s string, n int) []api.Num {
	var l []api.Num
	for part := range strings.SplitSeq(s, ",") {
		l = append(l, num(part))
	}
	if len(l) != n {
		panic(s + " has a wrong length")
	}
	return l
}

// pt returns the point whose coordinates are in a text with a comma.
func pt(s string) api.Point { return asPoint(nums(s, 2)) }

// ln returns the line whose numbers are in a text with two commas.
func ln(s string) api.Line { return asLine(nums(s, 3)) }

// pj returns the homogeneous point whose numbers are in a text with two commas.
func pj(s string) api.Proj { return asProj(nums(s, 3)) }

// Numbers as what consists of them, and the reverse.

func asPoint(l []api.Num) api.Point { return api.Point{X: l[0], Y: l[1]} }
func asLine(l []api.Num) api.Line   { return api.Line{A: l[0], B: l[1], C: l[2]} }
func asProj(l []api.Num) api.Proj   { return api.Proj{X: l[0], Y: l[1], W: l[2]} }
func ofPoint(p api.Point) []api.Num { return []api.Num{p.X, p.Y} }
func ofLine(l api.Line) []api.Num   { return []api.Num{l.A, l.B, l.C} }
func ofProj(p api.Proj) []api.Num   { return []api.Num{p.X, p.Y, p.W} }

// roots returns the tower with some numbers under its roots.
func roots(under ...string) api.Tower {
	var t api.Tower
	for _, s := range under {
		t.Roots = append(t.Roots, num(s))
	}
	return t
}

// show returns the text of some numbers.
func show(l ...api.Num) string {
	var texts []string
	for _, a := range l {
		var parts []string
		for _, c := range a {
			parts = append(parts, fraction.Text(c))
		}
		texts = append(texts, "["+strings.Join(parts, " ")+"]")
	}
	return "(" + strings.Join(texts, ", ") + ")"
}

// sameRat reports whether the fields of x and y are equal.
func sameRat(x, y api.Rat) bool {
	return x.Neg == y.Neg && slices.Equal(x.Num, y.Num) && slices.Equal(x.Den, y.Den)
}

// sameNum reports whether a and b are the same lists.
func sameNum(a, b api.Num) bool {
	return slices.EqualFunc(a, b, sameRat)
}

func fine[V any](v V, err error) V {
	if err != nil {
		panic(err)
	}
	return v
}

// Functions of package tower without the error, for arguments that have none.

func add(u api.Tower, a, b api.Num) api.Num { return fine(tower.Add(u, a, b)) }
func sub(u api.Tower, a, b api.Num) api.Num { return fine(tower.Sub(u, a, b)) }
func mul(u api.Tower, a, b api.Num) api.Num { return fine(tower.Mul(u, a, b)) }
func div(u api.Tower, a, b api.Num) api.Num { return fine(tower.Div(u, a, b)) }
func neg(u api.Tower, a api.Num) api.Num    { return fine(tower.Neg(u, a)) }
func sign(u api.Tower, a api.Num) int       { return fine(tower.Sign(u, a)) }

// Functions of package point without the error.

func dist2(u api.Tower, p, q api.Point) api.Num             { return fine(point.Dist2(u, p, q)) }
func orient(u api.Tower, p, q, r api.Point) int             { return fine(point.Orient(u, p, q, r)) }
func samePoint(u api.Tower, p, q api.Point) bool            { return fine(point.Same(u, p, q)) }
func move(u api.Tower, p, q api.Point) api.Point            { return fine(point.Add(u, p, q)) }
func stretch(u api.Tower, k api.Num, p api.Point) api.Point { return fine(point.Scale(u, k, p)) }

// Functions of this package without the error, whose results have to be numbers of the tower, in the short
// form.

func through(t *testing.T, u api.Tower, p, q api.Point) api.Line {
	t.Helper()
	l, err := line.Through(u, p, q)
	checked(t, "Through", u, err, ofLine(l)...)
	return l
}

func side(t *testing.T, u api.Tower, l api.Line, p api.Point) int {
	t.Helper()
	n, err := line.Side(u, l, p)
	checked(t, "Side", u, err)
	return n
}

func foot(t *testing.T, u api.Tower, l api.Line, p api.Point) api.Point {
	t.Helper()
	f, err := line.Foot(u, l, p)
	checked(t, "Foot", u, err, ofPoint(f)...)
	return f
}

func parallel(t *testing.T, u api.Tower, l, m api.Line) bool {
	t.Helper()
	is, err := line.Parallel(u, l, m)
	checked(t, "Parallel", u, err)
	return is
}

func meet(t *testing.T, u api.Tower, l, m api.Line) api.Proj {
	t.Helper()
	p, err := line.Meet(u, l, m)
	checked(t, "Meet", u, err, ofProj(p)...)
	return p
}

func join(t *testing.T, u api.Tower, p, q api.Proj) api.Line {
	t.Helper()
	l, err := line.Join(u, p, q)
	checked(t, "Join", u, err, ofLine(l)...)
	return l
}

func on(t *testing.T, u api.Tower, l api.Line, p api.Proj) bool {
	t.Helper()
	is, err := line.On(u, l, p)
	checked(t, "On", u, err)
	return is
}

func of(t *testing.T, u api.Tower, p api.Point) api.Proj {
	t.Helper()
	q, err := line.Of(u, p)
	checked(t, "Of", u, err, ofProj(q)...)
	return q
}

func proper(t *testing.T, u api.Tower, p api.Proj) api.Point {
	t.Helper()
	q, err := line.Proper(u, p)
	checked(t, "Proper", u, err, ofPoint(q)...)
	return q
}

func same(t *testing.T, u api.Tower, p, q api.Proj) bool {
	t.Helper()
	is, err := line.Same(u, p, q)
	checked(t, "Same", u, err)
	return is
}

func collinear(t *testing.T, u api.Tower, p, q, r api.Proj) bool {
	t.Helper()
	is, err := line.Collinear(u, p, q, r)
	checked(t, "Collinear", u, err)
	return is
}

// checked checks that there is no error, and that some numbers are short ones of the tower.
func checked(t *testing.T, what string, u api.Tower, err error, l ...api.Num) {
	t.Helper()
	if err != nil {
		t.Fatalf("%s: %v", what, err)
	}
	for _, a := range l {
		if !tower.Valid(u, a) || !sameNum(a, tower.Short(a)) {
			t.Fatalf("%s: no short number of %s: %v", what, show(u.Roots...), a)
		}
	}
}

// expectNums compares the values of some numbers with the wanted ones.
func expectNums(t *testing.T, what string, u api.Tower, got, want []api.Num) {
	t.Helper()
	for i := range want {
		if sign(u, sub(u, got[i], want[i])) != 0 {
			t.Fatalf("%s in %s: %s, not %s", what, show(u.Roots...), show(got...), show(want...))
		}
	}
}

func expectPoint(t *testing.T, what string, u api.Tower, got, want api.Point) {
	t.Helper()
	expectNums(t, what, u, ofPoint(got), ofPoint(want))
}

func expectLine(t *testing.T, what string, u api.Tower, got, want api.Line) {
	t.Helper()
	expectNums(t, what, u, ofLine(got), ofLine(want))
}

func expectProj(t *testing.T, what string, u api.Tower, got, want api.Proj) {
	t.Helper()
	expectNums(t, what, u, ofProj(got), ofProj(want))
}

// expect compares a sign, or whether something holds, with the wanted one.
func expect[V comparable](t *testing.T, what string, u api.Tower, got, want V, l ...[]api.Num) {
	t.Helper()
	if got != want {
		var texts []string
		for _, numbers := range l {
			texts = append(texts, show(numbers...))
		}
		t.Fatalf("%s of %s in %s: %v, not %v", what, strings.Join(texts, ", "), show(u.Roots...), got, want)
	}
}

// expectErr compares an error with the wanted one.
func expectErr(t *testing.T, what string, u api.Tower, got, want error, l ...[]api.Num) {
	t.Helper()
	expect(t, what, u, got, want, l...)
}

// setting is a tower, with numbers whose value is 0 although they are not the empty list.
type setting struct {
	tower api.Tower
	nulls []api.Num
}

// settings returns towers of all levels: with independent roots, and with roots that are fractions, 0, or
// sums and products of others.
func settings() []setting {
	null := func(texts ...string) []api.Num {
		var l []api.Num
		for _, s := range texts {
			l = append(l, num(s))
		}
		return l
	}
	return []setting{
		{tower: api.Tower{}},
		{tower: roots("2")},
		{tower: roots("3/8")},
		{roots("4"), null("2 -1", "4 -2")},
		{roots("0"), null("0 1")},
		{roots("9/16"), null("3 -4")},
		{tower: roots("2", "3 0")},
		{tower: roots("5/7", "3/2 -1/3")},
		{roots("2", "3 2"), null("1 1 -1 0")},
		{roots("8", "2 0"), null("0 1 -2 0")},
		{roots("4", "2 -1"), null("2 -1", "0 0 1 0", "0 0 0 1")},
		{roots("0", "5 -700"), null("0 1", "0 0 0 1")},
		{tower: roots("2", "3 1/2", "5 0 1/3 0")},
		{roots("2", "3 0", "6 0 0 0"), null("0 0 0 1 -1 0 0 0", "6 0 0 0 0 0 0 -1")},
		{tower: roots("2", "3 0", "0 1 0 0", "7 -1 -1 1/3 0 0 0 -1/2")},
		{tower: roots("2", "3 0", "5 0 0 0", "7 0 0 0 0 0 0 0", "11 0 0 0 0 0 0 0 0 0 0 0 0 0 0 0")},
		// The last root is 1 + 2 s + the second one, as the third is the sum of the first two, and the
		// fourth is 1 + s.
		{
			roots("2", "3 0", "5 0 0 2", "3 2 0 0 0 0 0 0", "8 2 0 2 0 0 0 0 0 0 0 0 2 0 0 0"),
			null("1 1 0 0 0 0 0 0 -1 0 0 0 0 0 0 0", "0 1 1 0 -1 0 0 0"),
		},
	}
}

// rounds returns how often something is tried in a tower, less often in a greater one.
func rounds(u api.Tower, most int) int {
	return max(2, most>>len(u.Roots))
}

// drawRat returns a fraction whose parts have at most some bits; often 0, often an integer.
func drawRat(r *rand.Rand, bits int) api.Rat {
	if r.Intn(4) == 0 {
		return api.Rat{}
	}
	d := 1
	if r.Intn(3) == 0 {
		d += r.Intn(1 << bits)
	}
	return fine(fraction.Make(r.Intn(2<<bits)-1<<bits, d))
}

// drawNum returns a number of the tower, of any length that its numbers have, not always short.
func drawNum(r *rand.Rand, s setting, bits int) api.Num {
	if r.Intn(12) == 0 {
		return nil
	}
	a := make(api.Num, 1<<r.Intn(len(s.tower.Roots)+1))
	for i := range a {
		a[i] = drawRat(r, bits)
	}
	return a
}

// drawNull returns a number whose value is 0.
func drawNull(r *rand.Rand, s setting) api.Num {
	return other(r, s, make(api.Num, 1<<r.Intn(len(s.tower.Roots)+1)))
}

// other returns a number with the value of a, with another list if the tower has one.
func other(r *rand.Rand, s setting, a api.Num) api.Num {
	if len(s.nulls) == 0 {
		return a
	}
	return add(s.tower, a, mul(s.tower, s.nulls[r.Intn(len(s.nulls))], drawNum(r, s, 3)))
}

// drawPoint returns a point of the tower.
func drawPoint(r *rand.Rand, s setting, bits int) api.Point {
	return api.Point{X: drawNum(r, s, bits), Y: drawNum(r, s, bits)}
}

// drawPoints returns some points of the tower, often with the same coordinates, with equal points whose
// lists differ where the tower has them, and with points on the lines through others.
func drawPoints(r *rand.Rand, s setting, n, bits int) []api.Point {
	l := make([]api.Point, n)
	for i := range l {
		l[i] = drawPoint(r, s, bits)
		if i == 0 {
			continue
		}
		p, q := l[r.Intn(i)], l[r.Intn(i)]
		switch r.Intn(12) {
		case 0:
			l[i] = api.Point{X: other(r, s, p.X), Y: other(r, s, q.Y)}
		case 1:
			l[i] = api.Point{X: other(r, s, p.X), Y: other(r, s, p.Y)}
		case 2, 3, 4:
			l[i] = move(s.tower, p, stretch(s.tower, drawNum(r, s, 2), fine(point.Sub(s.tower, q, p))))
		}
	}
	return l
}

// drawTriples returns the numbers of some lines or homogeneous points: often with the first two or the last
// one 0, or all of them, often the same as others, and often sums of multiples of two others.
func drawTriples(r *rand.Rand, s setting, n, bits int) [][]api.Num {
	l := make([][]api.Num, n)
	for i := range l {
		l[i] = []api.Num{drawNum(r, s, bits), drawNum(r, s, bits), drawNum(r, s, bits)}
		a, b := l[r.Intn(i+1)], l[r.Intn(i+1)]
		switch r.Intn(12) {
		case 0:
			l[i][2] = drawNull(r, s)
		case 1:
			l[i][0], l[i][1] = drawNull(r, s), drawNull(r, s)
		case 2:
			l[i] = []api.Num{drawNull(r, s), drawNull(r, s), drawNull(r, s)}
		case 3, 4:
			l[i] = combined(r, s, a, b, drawNum(r, s, 2), nil)
		case 5:
			// The same direction, so that lines are parallel.
			l[i][0], l[i][1] = other(r, s, a[0]), other(r, s, a[1])
		case 6, 7, 8:
			l[i] = combined(r, s, a, b, drawNum(r, s, 2), drawNum(r, s, 2))
		}
	}
	return l
}

// combined returns the sum of multiples of a and b.
func combined(r *rand.Rand, s setting, a, b []api.Num, k, m api.Num) []api.Num {
	c := make([]api.Num, len(a))
	for i := range c {
		c[i] = other(r, s, add(s.tower, mul(s.tower, k, a[i]), mul(s.tower, m, b[i])))
	}
	return c
}

// drawLines returns some lines.
func drawLines(r *rand.Rand, s setting, n, bits int) []api.Line {
	var l []api.Line
	for _, a := range drawTriples(r, s, n, bits) {
		l = append(l, asLine(a))
	}
	return l
}

// drawProjs returns some homogeneous points.
func drawProjs(r *rand.Rand, s setting, n, bits int) []api.Proj {
	var l []api.Proj
	for _, a := range drawTriples(r, s, n, bits) {
		l = append(l, asProj(a))
	}
	return l
}
