package resultant_test

import (
	"math/rand"
	"strings"
	"testing"

	"linkwork/api"
	"linkwork/poly"
	"linkwork/resultant"
)

// text returns the text of p.
func text(t *testing.T, p api.Poly) string {
	t.Helper()
	return must[string](t)(poly.Text(p))
}

// P8.1: the examples of the chapter.
func TestExamples(t *testing.T) {
	expectRat(t, "the resultant of x^2 - 2 and x - 3", between(t, list("-2 0 1"), list("-3 1")), rat("7"))
	expectRat(t, "the discriminant of x^3 - 3 x + 2", discriminant(t, list("2 -3 0 1")), rat("0"))
	expectRat(t, "the discriminant of x^3 - x", discriminant(t, list("0 -1 0 1")), rat("4"))
	u, v, g := bezout(t, list("0 1"), list("-1 1"))
	if text(t, u) != "1" || text(t, v) != "-1" || text(t, g) != "1" {
		t.Errorf("Bezout of x and x - 1: %s, %s, %s", text(t, u), text(t, v), text(t, g))
	}
}

// P8.1: Sylvester's matrix, also with constants.
func TestSylvester(t *testing.T) {
	for _, x := range []struct{ p, q, rows string }{
		{"3 2 1", "5 4", "[1 2 3] [4 5 0] [0 4 5]"},
		{"5 4", "3 2 1", "[4 5 0] [0 4 5] [1 2 3]"},
		{"-2/3 0 1/2", "7 0 0 -1", "[1/2 0 -2/3 0 0] [0 1/2 0 -2/3 0] [0 0 1/2 0 -2/3] [-1 0 0 7 0] [0 -1 0 0 7]"},
		{"5", "1 2 3", "[5 0] [0 5]"},
		{"1 2 3", "5", "[5 0] [0 5]"},
		{"1 2", "5", "[5]"},
		{"5", "-1/7", ""},
	} {
		rows := must[[][]api.Rat](t)(resultant.Sylvester(list(x.p), list(x.q)))
		var texts []string
		for _, row := range rows {
			texts = append(texts, show(row))
		}
		if got := strings.Join(texts, " "); got != x.rows {
			t.Errorf("Sylvester of %s and %s: %s", x.p, x.q, got)
		}
	}
}

// P8.1: resultants, also of constants.
func TestResultants(t *testing.T) {
	for _, x := range []struct{ p, q, want string }{
		{"3 2 1", "5 4", "33"},
		{"-1 0 1", "-1 1", "0"},
		{"5", "2 1", "5"},
		{"-3", "1 0 1", "9"},
		{"1 0 0 1", "-3", "-27"},
		{"-2/3", "1 1 1 1 1", "16/81"},
		{"5", "-7", "1"},
		{"0 1", "0 0 1", "0"},
		{"0 1", "-1 1", "-1"},
		{"-1 1", "0 1", "1"},
		{"1 0 1", "-1 0 1", "4"},
		{"0 1/2", "1/3 1", "1/6"},
		{"340282366920938463463374607431768211457 1", "1 1", "-340282366920938463463374607431768211456"},
	} {
		expectRat(t, "the resultant of "+x.p+" and "+x.q, between(t, list(x.p), list(x.q)), rat(x.want))
	}
}

// P8.1: the errors behind those of the polynomials: ErrZero first, then ErrLarge.
func TestErrors(t *testing.T) {
	for _, x := range []struct {
		p, q api.Poly
		want error
	}{
		{nil, nil, api.ErrZero},
		{nil, list("1"), api.ErrZero},
		{list("1"), nil, api.ErrZero},
		{longest(64), nil, api.ErrZero},
		{nil, longest(41), api.ErrZero},
		{longest(41), list("1"), api.ErrLarge},
		{list("1"), longest(41), api.ErrLarge},
		{longest(20), longest(21), api.ErrLarge},
		{longest(64), longest(64), api.ErrLarge},
	} {
		calls := ofTwo(x.p, x.q)
		delete(calls, "Bezout")
		expectAll(t, calls, x.want)
	}
	for _, x := range [][2]api.Poly{{longest(40), list("1")}, {list("1"), longest(40)}, {longest(20), longest(20)}, {longest(1), longest(39)}} {
		for name, o := range ofTwo(x[0], x[1]) {
			if o.err != nil {
				t.Errorf("%s: %v", name, o.err)
			}
		}
	}
	_, _, _, err := resultant.Bezout(nil, nil)
	expectAll(t, map[string]outcome{"Bezout": {err: err}}, api.ErrZero)
	for _, n := range []int{21, 40, 64} {
		expectAll(t, ofOne(longest(n)), api.ErrLarge)
	}
	for _, p := range []api.Poly{nil, {}, list("1"), list("-2/3")} {
		expectAll(t, ofOne(p), api.ErrRange)
	}
	for _, n := range []int{1, 2, 20} {
		discriminant(t, longest(n))
	}
}

// P8.1: Accepts refuses products of too great degrees, whatever else is wrong, and no others.
func TestLargeProducts(t *testing.T) {
	one, x := list("1"), list("0 1")
	for _, l := range [][5]api.Poly{
		{longest(64), one, x, one, one},
		{one, longest(64), one, x, one},
		{one, longest(33), one, longest(32), nil},
		{longest(33), nil, longest(32), nil, list("0 2")},
		{longest(64), longest(64), longest(64), longest(64), nil},
		{one, longest(64), one, longest(1), longest(64)},
	} {
		expectAll(t, ofFive(l[0], l[1], l[2], l[3], l[4]), api.ErrLarge)
	}
	for i, l := range [][5]api.Poly{
		{longest(64), one, one, one, one},
		{longest(32), longest(64), longest(32), one, one},
		{longest(64), nil, nil, longest(64), one},
		{nil, longest(64), longest(64), nil, one},
		{nil, nil, longest(64), longest(64), longest(64)},
		{longest(64), longest(64), nil, nil, longest(64)},
	} {
		if ok, err := resultant.Accepts(l[0], l[1], l[2], l[3], l[4]); ok || err != nil {
			t.Errorf("%d: Accepts: %v, %v", i, ok, err)
		}
	}
	r := rand.New(rand.NewSource(50))
	for _, n := range []int{0, 1, 31, 32} {
		p, q := exact(r, 64-n, 3), exact(r, n+1, 3)
		u, v, g := bezout(t, p, q)
		if poly.Degree(u)+poly.Degree(p) != 64 || !accepts(t, p, q, u, v, g) {
			t.Errorf("%s and %s: %s", show(p), show(q), show(u))
		}
	}
}

// P8.1: Accepts looks at each of its conditions.
func TestAccepts(t *testing.T) {
	for _, x := range []struct {
		p, q, u, v, g string
		want          bool
	}{
		{"0 1", "-1 1", "1", "-1", "1", true},
		{"0 1", "-1 1", "0 1", "0 -1", "0 1", false},       // x does not divide x - 1
		{"-1 1", "0 1", "0 1", "1 -1", "", false},          // the sum is 0
		{"-1 1", "0 1", "0 -1", "0 1", "0 1", false},       // x does not divide x - 1, exchanged
		{"0 1", "-1 1", "2", "-2", "2", false},             // not monic
		{"0 1", "-1 1", "1", "-1", "2", false},             // another sum
		{"0 1", "-1 1", "1", "1", "1", false},              // a sum of a greater degree
		{"0 1", "-1 1", "", "", "", false},                 // 0
		{"2 2", "2 2", "1/2", "", "1 1", true},             // one of many
		{"2 2", "2 2", "1", "-1/2", "1 1", true},           // another one
		{"2 2", "2 2", "1", "", "2 2", false},              // not monic
		{"-1 0 1", "1 2 1", "-1/2", "1/2", "1 1", true},    // x + 1
		{"-1 0 1", "1 2 1", "1", "", "-1 0 1", false},      // divides only the first one
		{"-1 0 1", "1 2 1", "", "1", "1 2 1", false},       // divides only the second one
		{"-1 0 1", "1 2 1", "-1/2", "1/2", "-1 -1", false}, // another sign
		{"", "3 1", "", "1", "3 1", true},
		{"3 1", "", "1", "5 0 7", "3 1", true},
		{"", "", "1", "1", "1", false},
		{"4", "6", "1", "-1/2", "1", true},
		{"4", "6", "1/4", "", "1", true},
	} {
		if got := accepts(t, list(x.p), list(x.q), list(x.u), list(x.v), list(x.g)); got != x.want {
			t.Errorf("Accepts of %s; %s; %s; %s; %s: %v", x.p, x.q, x.u, x.v, x.g, got)
		}
	}
}

// P8.1: the greatest degrees, with a sum that only the model can check.
func TestGreatestDegrees(t *testing.T) {
	r := rand.New(rand.NewSource(51))
	for _, x := range []struct{ m, n, bits int }{{64, 64, 6}, {64, 63, 30}, {50, 64, 100}} {
		p, q := exact(r, x.m, 1), exact(r, x.n, 1)
		p[0], q[x.n] = drawRat(r, x.bits), rat("1/3")
		u, v, g := bezout(t, p, q)
		sum := toModel(u).mul(toModel(p)).plus(toModel(v).mul(toModel(q)), toBig(rat("1")), 0)
		expect(t, "the sum", sum.poly(), g)
		expect(t, "g", g, must[api.Poly](t)(poly.Gcd(p, q)))
		if poly.Degree(u) >= poly.Degree(q)-poly.Degree(g) {
			t.Errorf("the degree of u: %d", poly.Degree(u))
		}
	}
}
