package bipoly_test

import (
	"math/rand"
	"testing"

	"linkwork/api"
	"linkwork/bipoly"
	"linkwork/fraction"
	"linkwork/poly"
)

// line returns the polynomial x - a, or y - a.
func line(isY bool, a api.Rat) api.BiPoly {
	p := of("1 1 0")
	if isY {
		p = of("1 0 1")
	}
	if fraction.Sign(a) != 0 {
		p = append(api.BiPoly{{C: fraction.Neg(a)}}, p...)
	}
	return p
}

// fits reports whether p and q have an Eliminate.
func fits(t *testing.T, p, q api.BiPoly) bool {
	t.Helper()
	high := toModel(p).highest() + toModel(q).highest()
	return len(p) > 0 && len(q) > 0 && high <= 8 && degree(t, p)*degree(t, q) <= 64
}

// wanted returns the determinant of Sylvester's matrix of p and q.
func wanted(p, q api.BiPoly) api.Poly {
	return determinant(toModel(p).sylvester(toModel(q))).list()
}

// P9.1: Eliminate, also without y, and with highest coefficients that are 0 somewhere.
func TestEliminate(t *testing.T) {
	for _, x := range []struct{ p, q, want string }{
		{"1 0 1", "1 0 0, 1 0 1", "1"},
		{"-1 1 0, 1 0 1", "1 1 0, 1 0 1", "0 2"},
		{"1 1 0, 1 0 1", "-1 1 0, 1 0 1", "0 -2"},
		{"1 1 0", "-2 0 0, 1 0 2, 1 2 0", "0 0 1"},
		{"-2 0 0, 1 0 2, 1 2 0", "1 1 0", "0 0 1"},
		{"-2/3 0 0", "1 0 3", "-8/27"},
		{"1 0 3", "-2/3 0 0", "-8/27"},
		{"1 1 0", "3 0 0", "1"},
		{"1 24 0", "3 0 0", "1"},
		{"-2/3 0 0", "5 0 0", "1"},
		{"-1 0 0, 1 1 1", "1 0 1, 1 1 2", "0 2"},
		{"-1 0 0, 1 1 1", "-1 0 0, 1 1 1", ""},
		{"1 1 1", "1 0 1", ""},
		{"1 1 1, 1 1 0", "1 1 1, 2 1 0", "0 0 1"},
		{"1 1 0, 1 1 1", "2 1 0, 1 1 1", "0 0 1"},
		{"1 0 0, 1 1 1", "-1 2 0, 1 0 2", "1 0 0 0 -1"},
		{"1/2 1 0, 1/3 0 2", "1/5 0 1", "0 1/50"},
	} {
		p, q := build(t, of(x.p)), build(t, of(x.q))
		expectList(t, "Eliminate of "+x.p+" and "+x.q, eliminate(t, p, q), list(x.want))
		expectList(t, "the model", wanted(p, q), list(x.want))
	}
}

// P9.1: Eliminate is the determinant of Sylvester's matrix.
func TestDeterminants(t *testing.T) {
	r := rand.New(rand.NewSource(60))
	for _, p := range edges() {
		for _, q := range edges() {
			if fits(t, p, q) {
				expectList(t, "Eliminate of "+show(p)+" and "+show(q), eliminate(t, p, q), wanted(p, q))
			}
		}
	}
	for i := range 200 {
		p, q := draw(r, 1+i%6, i%5, 2+i%40), draw(r, 1+i%5, i%4, 2+i%40)
		if fits(t, p, q) {
			expectList(t, "Eliminate of "+show(p)+" and "+show(q), eliminate(t, p, q), wanted(p, q))
		}
	}
	for _, x := range [][2]api.BiPoly{
		{full(r, 8, 1, 3), full(r, 8, 7, 3)},
		{draw(r, 4, 4, 9), draw(r, 4, 4, 9)},
		{full(r, 1, 1, 9), full(r, 7, 7, 9)},
		{full(r, 24, 2, 3), full(r, 2, 2, 3)},
		{full(r, 2, 0, 3), full(r, 24, 8, 3)},
		{of("1 0 8"), of("2 1 0, 1 8 0")},
	} {
		if fits(t, x[0], x[1]) {
			expectList(t, "Eliminate", eliminate(t, x[0], x[1]), wanted(x[0], x[1]))
			expectList(t, "Eliminate", eliminate(t, x[1], x[0]), wanted(x[1], x[0]))
		}
	}
}

// P9.1: highest coefficients that are 0 at many integers.
func TestManyZeros(t *testing.T) {
	p, q := of("1 0 1"), of("1 0 1")
	for k := range 23 {
		p = mul(t, p, line(false, fraction.Of(k)))
	}
	q = mul(t, q, line(false, fraction.Of(23)))
	p, q = add(t, p, of("1 0 0")), add(t, q, of("1 1 0"))
	// The rows are the coefficients of the powers of y: (a, 1) and (x - 23, x).
	want := add(t, mul(t, partial(t, p, true), of("1 1 0")), of("23 0 0, -1 1 0"))
	expectList(t, "Eliminate", eliminate(t, p, q), fix(t, want, true, rat("0")))
}

// P9.1: the greatest degrees, and those above them.
func TestEliminateLimits(t *testing.T) {
	for _, x := range []struct {
		p, q string
		want error
	}{
		{"", "1 0 1", api.ErrZero},
		{"1 0 1", "", api.ErrZero},
		{"", "", api.ErrZero},
		{"", "1 0 24", api.ErrZero},
		{"1 0 24", "", api.ErrZero},
		{"1 0 5", "1 0 4", api.ErrLarge},
		{"1 0 4", "1 0 5", api.ErrLarge},
		{"1 0 0, 1 0 9", "1 0 0", api.ErrLarge},
		{"1 0 0", "1 0 9", api.ErrLarge},
		{"1 1 0", "1 0 9, 1 9 1", api.ErrLarge},
		{"1 0 1, 1 13 0", "1 0 1, 1 5 0", api.ErrLarge},
		{"1 13 0", "1 5 0", api.ErrLarge},
		{"1 24 0", "1 3 0", api.ErrLarge},
		{"1 24 0", "1 24 0", api.ErrLarge},
		{"1 16 4, 1 24 0", "1 1 2", api.ErrLarge},
		{"1 0 4", "3 0 4", nil},
		{"1 0 8", "3 0 0", nil},
		{"1 0 0", "3 0 8", nil},
		{"1 24 0", "1 2 0", nil},
		{"1 8 0", "1 8 0", nil},
		{"1 0 1, 1 16 0", "1 0 1, 1 4 0", nil},
		{"1 24 0", "3 0 0", nil},
	} {
		l, err := bipoly.Eliminate(of(x.p), of(x.q))
		if err != x.want || err != nil && len(l) > 0 {
			t.Errorf("Eliminate of %s and %s: %s, %v, not %v", x.p, x.q, showList(l), err, x.want)
		}
	}
	for _, x := range [][3]string{
		{"1 0 4, 1 3 0", "1 0 1, 1 16 0", "0 0 0 1" + zeros(60) + " 1"},
		{"1 0 1, 1 16 0", "1 0 4, 1 3 0", "0 0 0 1" + zeros(60) + " 1"},
		{"1 0 4", "1 16 0", "0" + zeros(63) + " 1"},
		{"1 8 0", "1 0 8", "0" + zeros(63) + " 1"},
		{"1 8 0", "1 0 1, 1 8 0", "0" + zeros(7) + " 1"},
	} {
		expectList(t, "Eliminate of "+x[0]+" and "+x[1], eliminate(t, build(t, of(x[0])), build(t, of(x[1]))), list(x[2]))
	}
}

// zeros returns the text of n fractions 0, each one behind a space.
func zeros(n int) string {
	s := ""
	for range n {
		s += " 0"
	}
	return s
}

// P9.5: where both polynomials are 0, Eliminate is 0 at x, unless none of them has a power of y.
func TestCommonZeros(t *testing.T) {
	r := rand.New(rand.NewSource(61))
	for i := range 200 {
		bits := 2 + i%20
		x, y := drawRat(r, bits), drawRat(r, bits)
		through := func() api.BiPoly {
			a, b := draw(r, 3, 3, bits), draw(r, 3, 3, bits)
			return add(t, mul(t, line(false, x), a), mul(t, line(true, y), b))
		}
		p, q := through(), through()
		if !fits(t, p, q) {
			continue
		}
		want := rat("0")
		if toModel(p).highest()+toModel(q).highest() == 0 {
			want = rat("1")
		}
		e := eliminate(t, p, q)
		expectRat(t, "Eliminate of "+show(p)+" and "+show(q), must[api.Rat](t)(poly.Eval(e, x)), want)
	}
	for i := range 20 {
		p := mul(t, line(false, drawRat(r, 9)), draw(r, i%5, 0, 9))
		if q := mul(t, line(false, drawRat(r, 9)), draw(r, i%4, 0, 9)); len(p) > 0 && len(q) > 0 {
			expectList(t, "Eliminate without y", eliminate(t, p, q), list("1"))
		}
	}
}

// P9.5: a polynomial in y alone is 0 on some lines, each of which gives Eliminate the zeros that the
// other polynomial has on it. A common factor with y makes Eliminate 0.
func TestFactors(t *testing.T) {
	r := rand.New(rand.NewSource(62))
	for i := range 100 {
		bits := 2 + i%30
		p, want := of("1 0 0"), list("1")
		q := full(r, 1+i%3, 3, bits)
		// The product of the lines y - a has the product of the values of q at these y.
		for range i % 5 {
			a := drawRat(r, bits)
			p, want = mul(t, p, line(true, a)), must[api.Poly](t)(poly.Mul(want, fix(t, q, true, a)))
		}
		expectList(t, "the product of the values", eliminate(t, p, q), want)
		if c := full(r, 1, 1, bits); i%5 > 0 {
			expectList(t, "a common factor", eliminate(t, mul(t, of("1 0 0, 1 1 1"), c), mul(t, q, c)), nil)
		}
	}
}

// P9.5: the resultant is multiplicative, and changes its sign with the order if both powers are odd.
func TestProducts(t *testing.T) {
	r := rand.New(rand.NewSource(63))
	for i := range 100 {
		bits := 2 + i%30
		p, q, s := draw(r, 3, 2, bits), draw(r, 4, 4, bits), draw(r, 3, 2, bits)
		if len(p) == 0 || len(q) == 0 || len(s) == 0 {
			continue
		}
		want := must[api.Poly](t)(poly.Mul(eliminate(t, p, q), eliminate(t, s, q)))
		expectList(t, "Eliminate of p s and q", eliminate(t, mul(t, p, s), q), want)
		want = eliminate(t, p, q)
		if toModel(p).highest()%2 == 1 && toModel(q).highest()%2 == 1 {
			want = must[api.Poly](t)(poly.Scale(want, rat("-1")))
		}
		expectList(t, "Eliminate of q and p", eliminate(t, q, p), want)
	}
}
