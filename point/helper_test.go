package point_test

import (
	"math/rand"
	"slices"
	"strings"
	"testing"

	"linkwork/api"
	"linkwork/fraction"
	"linkwork/point"
	"linkwork/tower"
)

// rat returns the fraction of a text.
func rat(s string) api.Rat {
	x, err := fraction.Parse(s)
	if err != nil {
		panic(s + " is no fraction")
	}
	return x
}

// num returns the number whose fractions are in a text with spaces.
func num(s string) api.Num {
	var a api.Num
	for _, c := range strings.Fields(s) {
		a = append(a, rat(c))
	}
	return a
}

// pt returns the point whose coordinates are in a text with a comma.
func pt(s string) api.Point {
	x, y, found := strings.Cut(s, ",")
	if !found {
		panic(s + " is no point")
	}
	return api.Point{X: num(x), Y: num(y)}
}

// roots returns the tower with some numbers under its roots.
func roots(under ...string) api.Tower {
	var t api.Tower
	for _, s := range under {
		t.Roots = append(t.Roots, num(s))
	}
	return t
}

// show returns the text of a number.
func show(a api.Num) string {
	var texts []string
	for _, c := range a {
		texts = append(texts, fraction.Text(c))
	}
	return "[" + strings.Join(texts, " ") + "]"
}

// showPoint returns the text of a point.
func showPoint(p api.Point) string {
	return "(" + show(p.X) + ", " + show(p.Y) + ")"
}

// showTower returns the text of a tower.
func showTower(u api.Tower) string {
	s := ""
	for _, d := range u.Roots {
		s += show(d)
	}
	return "{" + s + "}"
}

// sameRat reports whether the fields of x and y are equal.
func sameRat(x, y api.Rat) bool {
	return x.Neg == y.Neg && slices.Equal(x.Num, y.Num) && slices.Equal(x.Den, y.Den)
}

// sameNum reports whether a and b are the same lists.
func sameNum(a, b api.Num) bool {
	return slices.EqualFunc(a, b, sameRat)
}

// must returns a value that came without an error.
func must[V any](t *testing.T) func(v V, err error) V {
	return func(v V, err error) V {
		t.Helper()
		if err != nil {
			t.Fatalf("an error: %v", err)
		}
		return v
	}
}

// Functions of package tower without the error, for arguments that have none.

func add(u api.Tower, a, b api.Num) api.Num { return fine(tower.Add(u, a, b)) }
func sub(u api.Tower, a, b api.Num) api.Num { return fine(tower.Sub(u, a, b)) }
func mul(u api.Tower, a, b api.Num) api.Num { return fine(tower.Mul(u, a, b)) }
func neg(u api.Tower, a api.Num) api.Num    { return fine(tower.Neg(u, a)) }
func cmp(u api.Tower, a, b api.Num) int     { return fine(tower.Cmp(u, a, b)) }
func sign(u api.Tower, a api.Num) int       { return fine(tower.Sign(u, a)) }

func fine[V any](v V, err error) V {
	if err != nil {
		panic(err)
	}
	return v
}

// Functions of this package without the error, whose results have to be numbers and points of the tower.

func plus(t *testing.T, u api.Tower, p, q api.Point) api.Point {
	t.Helper()
	return checked(t, u, must[api.Point](t)(point.Add(u, p, q)))
}

func minus(t *testing.T, u api.Tower, p, q api.Point) api.Point {
	t.Helper()
	return checked(t, u, must[api.Point](t)(point.Sub(u, p, q)))
}

func scale(t *testing.T, u api.Tower, k api.Num, p api.Point) api.Point {
	t.Helper()
	return checked(t, u, must[api.Point](t)(point.Scale(u, k, p)))
}

func turn(t *testing.T, u api.Tower, cos, sin api.Num, p api.Point) api.Point {
	t.Helper()
	return checked(t, u, must[api.Point](t)(point.Turn(u, cos, sin, p)))
}

func at(t *testing.T, u api.Tower, b api.Placed, x, y api.Rat) api.Point {
	t.Helper()
	return checked(t, u, must[api.Point](t)(point.At(u, b, x, y)))
}

func dot(t *testing.T, u api.Tower, p, q api.Point) api.Num {
	t.Helper()
	return checkedNum(t, u, must[api.Num](t)(point.Dot(u, p, q)))
}

func cross(t *testing.T, u api.Tower, p, q api.Point) api.Num {
	t.Helper()
	return checkedNum(t, u, must[api.Num](t)(point.Cross(u, p, q)))
}

func dist2(t *testing.T, u api.Tower, p, q api.Point) api.Num {
	t.Helper()
	return checkedNum(t, u, must[api.Num](t)(point.Dist2(u, p, q)))
}

func orient(t *testing.T, u api.Tower, p, q, r api.Point) int {
	t.Helper()
	return must[int](t)(point.Orient(u, p, q, r))
}

func same(t *testing.T, u api.Tower, p, q api.Point) bool {
	t.Helper()
	return must[bool](t)(point.Same(u, p, q))
}

func between(t *testing.T, u api.Tower, p, q, r api.Point) bool {
	t.Helper()
	return must[bool](t)(point.Between(u, p, q, r))
}

// checked returns p, which has to be a point of the tower.
func checked(t *testing.T, u api.Tower, p api.Point) api.Point {
	t.Helper()
	if err := point.Check(u, p); err != nil {
		t.Fatalf("no point of %s: %v", showTower(u), p)
	}
	return p
}

// checkedNum returns a, which has to be a number of the tower.
func checkedNum(t *testing.T, u api.Tower, a api.Num) api.Num {
	t.Helper()
	if !tower.Valid(u, a) {
		t.Fatalf("no number of %s: %v", showTower(u), a)
	}
	return a
}

// expectNum compares the value of a number with the wanted one.
func expectNum(t *testing.T, what string, u api.Tower, got, want api.Num) {
	t.Helper()
	if cmp(u, got, want) != 0 {
		t.Fatalf("%s in %s: %s, not %s", what, showTower(u), show(got), show(want))
	}
}

// expectPoint compares the values of the coordinates of a point with the wanted ones.
func expectPoint(t *testing.T, what string, u api.Tower, got, want api.Point) {
	t.Helper()
	if cmp(u, got.X, want.X) != 0 || cmp(u, got.Y, want.Y) != 0 {
		t.Fatalf("%s in %s: %s, not %s", what, showTower(u), showPoint(got), showPoint(want))
	}
}

// expect compares a sign, or whether something holds, with the wanted one.
func expect[V comparable](t *testing.T, what string, u api.Tower, got, want V, points ...api.Point) {
	t.Helper()
	if got != want {
		var texts []string
		for _, p := range points {
			texts = append(texts, showPoint(p))
		}
		t.Fatalf("%s of %s in %s: %v, not %v", what, strings.Join(texts, ", "), showTower(u), got, want)
	}
}

// setting is a tower, with numbers whose value is 0 although they are not the empty list.
type setting struct {
	tower api.Tower
	nulls []api.Num
}

// settings returns towers of all levels: with independent roots, and with roots that are fractions, 0, or
// sums and products of others.
func settings() []setting {
	null := func(texts ...string) []api.Num {
		var l []api.Num
		for _, s := range texts {
			l = append(l, num(s))
		}
		return l
	}
	return []setting{
		{tower: api.Tower{}},
		{tower: roots("2")},
		{tower: roots("3/8")},
		{roots("4"), null("2 -1", "4 -2")},
		{roots("0"), null("0 1")},
		{roots("9/16"), null("3 -4")},
		{tower: roots("2", "3 0")},
		{tower: roots("2", "0 1")},
		{tower: roots("5/7", "3/2 -1/3")},
		{roots("2", "3 2"), null("1 1 -1 0")},
		{roots("8", "2 0"), null("0 1 -2 0")},
		{roots("4", "2 -1"), null("2 -1", "0 0 1 0", "0 0 0 1")},
		{roots("0", "5 -700"), null("0 1", "0 0 0 1")},
		{tower: roots("2", "3 1/2", "5 0 1/3 0")},
		{roots("2", "3 0", "6 0 0 0"), null("0 0 0 1 -1 0 0 0", "6 0 0 0 0 0 0 -1")},
		{roots("2", "3 0", "5 0 0 2"), null("0 1 1 0 -1 0 0 0")},
		{tower: roots("2", "3 0", "0 1 0 0", "7 -1 -1 1/3 0 0 0 -1/2")},
		{tower: roots("2", "3 0", "5 0 0 0", "7 0 0 0 0 0 0 0", "11 0 0 0 0 0 0 0 0 0 0 0 0 0 0 0")},
		// The last root is 1 + 2 s + the second one, as the third is the sum of the first two, and the
		// fourth is 1 + s.
		{
			roots("2", "3 0", "5 0 0 2", "3 2 0 0 0 0 0 0", "8 2 0 2 0 0 0 0 0 0 0 0 2 0 0 0"),
			null("1 1 0 0 0 0 0 0 -1 0 0 0 0 0 0 0", "0 1 1 0 -1 0 0 0"),
		},
	}
}

// rounds returns how often something is tried in a tower, less often in a greater one.
func rounds(u api.Tower, most int) int {
	return max(2, most>>len(u.Roots))
}

// drawRat returns a fraction whose parts have at most some bits; often 0, often an integer.
func drawRat(r *rand.Rand, bits int) api.Rat {
	if r.Intn(4) == 0 {
		return api.Rat{}
	}
	d := 1
	if r.Intn(3) == 0 {
		d += r.Intn(1 << bits)
	}
	return fine(fraction.Make(r.Intn(2<<bits)-1<<bits, d))
}

// drawNum returns a number of the tower, of any length that its numbers have, not always short.
func drawNum(r *rand.Rand, s setting, bits int) api.Num {
	if r.Intn(12) == 0 {
		return nil
	}
	a := make(api.Num, 1<<r.Intn(len(s.tower.Roots)+1))
	for i := range a {
		a[i] = drawRat(r, bits)
	}
	return a
}

// drawPoint returns a point of the tower.
func drawPoint(r *rand.Rand, s setting, bits int) api.Point {
	return api.Point{X: drawNum(r, s, bits), Y: drawNum(r, s, bits)}
}

// drawPoints returns some points of the tower, often with the same coordinates, with equal points whose
// lists differ where the tower has them, and with points on the lines through others.
func drawPoints(r *rand.Rand, s setting, n, bits int) []api.Point {
	l := make([]api.Point, n)
	for i := range l {
		l[i] = drawPoint(r, s, bits)
		if i == 0 {
			continue
		}
		p, q := l[r.Intn(i)], l[r.Intn(i)]
		switch r.Intn(12) {
		case 0:
			l[i] = api.Point{X: other(r, s, p.X), Y: other(r, s, q.Y)}
		case 1:
			l[i] = api.Point{X: other(r, s, p.X), Y: other(r, s, p.Y)}
		case 2, 3, 4:
			k := drawNum(r, s, 2)
			l[i] = modelWay(s.tower, p, q, k)
		}
	}
	return l
}

// other returns a number with the value of a, with another list if the tower has one.
func other(r *rand.Rand, s setting, a api.Num) api.Num {
	if len(s.nulls) == 0 {
		return a
	}
	return add(s.tower, a, mul(s.tower, s.nulls[r.Intn(len(s.nulls))], drawNum(r, s, 3)))
}
