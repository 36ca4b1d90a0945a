package resultant_test

import (
	"math/rand"
	"testing"

	"linkwork/api"
	"linkwork/fraction"
	"linkwork/poly"
	"linkwork/resultant"
)

// P8.2: the resultant is 0 exactly if there is a common divisor that is no constant.
func TestCommonDivisors(t *testing.T) {
	r := rand.New(rand.NewSource(30))
	for _, pair := range pairs(t, r) {
		g := must[api.Poly](t)(poly.Gcd(pair[0], pair[1]))
		if zero := fraction.Sign(between(t, pair[0], pair[1])) == 0; zero != (poly.Degree(g) > 0) {
			t.Fatalf("the resultant of %s and %s with the common divisor %s: %v", show(pair[0]), show(pair[1]), show(g), zero)
		}
	}
	for n := 1; n <= 20; n++ {
		c := exact(r, n, 40)
		p, q := mul(t, c, exact(r, 20-n, 40)), mul(t, c, exact(r, 20-n, 40))
		if fraction.Sign(between(t, p, q)) != 0 {
			t.Fatalf("%s and %s have the common divisor %s", show(p), show(q), show(c))
		}
	}
}

// P8.2: the resultant is multiplicative, and changes its sign with the order if both degrees are odd.
func TestProducts(t *testing.T) {
	r := rand.New(rand.NewSource(31))
	for i := range 300 {
		bits := 2 + i%90
		p, q, s := drawFull(r, 10, bits), drawFull(r, 20, bits), drawFull(r, 10, bits)
		want := fraction.Mul(between(t, p, q), between(t, s, q))
		expectRat(t, "the resultant of p s and q", between(t, mul(t, p, s), q), want)
		expectRat(t, "the resultant of q and p s", between(t, q, mul(t, p, s)), fraction.Mul(between(t, q, p), between(t, q, s)))
		want = between(t, p, q)
		if poly.Degree(p)%2 == 1 && poly.Degree(q)%2 == 1 {
			want = fraction.Neg(want)
		}
		expectRat(t, "the resultant of q and p", between(t, q, p), want)
		c := drawFull(r, 0, bits)
		expectRat(t, "the resultant of a constant", between(t, c, q), power(t, c[0], poly.Degree(q)))
		expectRat(t, "the resultant with a constant", between(t, q, c), power(t, c[0], poly.Degree(q)))
		expectRat(t, "the resultant of constants", between(t, c, drawFull(r, 0, bits)), rat("1"))
	}
}

// P8.3: the resultant of a product of factors x - a(i) and of q is the product of the values q(a(i)).
func TestFactors(t *testing.T) {
	r := rand.New(rand.NewSource(32))
	for i := range 200 {
		p, q, want := list("1"), drawFull(r, 20, 2+i%50), rat("1")
		for range i % 21 {
			a := drawRat(r, 2+i%50)
			p, want = mul(t, p, linear(a)), fraction.Mul(want, eval(t, q, a))
		}
		expectRat(t, "the product of the values", between(t, p, q), want)
	}
}

// P8.3: numbers around the primes and products of primes modulo which is computed, and their halves.
func TestResiduesOfResultants(t *testing.T) {
	r := rand.New(rand.NewSource(33))
	product := rat("1")
	for _, s := range []string{"2147483647", "2147483629", "2147483587", "2147483579", "2147483563", "2147483549"} {
		product = fraction.Mul(product, rat(s))
		for _, n := range []api.Rat{rat(s), product, fraction.Mul(product, rat("1/2")), fraction.Mul(product, rat("2"))} {
			for _, d := range []string{"-1", "-1/2", "0", "1/2", "1", "3"} {
				a := fraction.Add(n, rat(d))
				for _, x := range []api.Rat{a, fraction.Neg(a)} {
					expectRat(t, "x - a and x", between(t, linear(x), list("0 1")), x)
					expectRat(t, "a x + 1 and x", between(t, api.Poly{rat("1"), x}, list("0 1")), rat("-1"))
					q := exact(r, 3, 20)
					expectRat(t, "x - a and q", between(t, linear(x), q), eval(t, q, x))
					checkBezout(t, linear(x), q)
					checkBezout(t, q, api.Poly{rat("3"), rat("1"), x})
				}
			}
		}
	}
}

// P8.4: the discriminant is 0 exactly if there is a multiple root.
func TestMultipleRoots(t *testing.T) {
	r := rand.New(rand.NewSource(34))
	for i := range 300 {
		p := drawFull(r, 6, 2+i%40)
		if i%3 == 0 {
			c := exact(r, 1+i%4, 20)
			p = mul(t, p, c, c)
		}
		if poly.Degree(p) < 1 {
			continue
		}
		free := must[api.Poly](t)(poly.Free(p))
		if zero := fraction.Sign(discriminant(t, p)) == 0; zero != (len(free) < len(p)) {
			t.Fatalf("the discriminant of %s: %v", show(p), zero)
		}
	}
}

// P8.4: the discriminant of a x^2 + b x + c is b^2 - 4 a c; that of a x^3 + b x^2 + c x + d is
// b^2 c^2 - 4 a c^3 - 4 b^3 d - 27 a^2 d^2 + 18 a b c d.
func TestQuadratics(t *testing.T) {
	r := rand.New(rand.NewSource(35))
	for i := range 200 {
		bits := 2 + i%100
		p := exact(r, 2, bits)
		want := fraction.Sub(product(p[1], p[1]), product(rat("4"), p[2], p[0]))
		expectRat(t, "the discriminant of "+show(p), discriminant(t, p), want)
		p = exact(r, 3, bits)
		d, c, b, a := p[0], p[1], p[2], p[3]
		want = product(b, b, c, c)
		for _, x := range []api.Rat{
			product(rat("-4"), a, c, c, c), product(rat("-4"), b, b, b, d),
			product(rat("-27"), a, a, d, d), product(rat("18"), a, b, c, d),
		} {
			want = fraction.Add(want, x)
		}
		expectRat(t, "the discriminant of "+show(p), discriminant(t, p), want)
		p = exact(r, 1, bits)
		expectRat(t, "the discriminant of "+show(p), discriminant(t, p), rat("1"))
	}
}

// product returns the product of some fractions.
func product(l ...api.Rat) api.Rat {
	x := rat("1")
	for _, y := range l {
		x = fraction.Mul(x, y)
	}
	return x
}

// P8.4: the discriminant is a^(2 n - 2) times the product of the squared differences of the roots.
func TestDifferences(t *testing.T) {
	r := rand.New(rand.NewSource(36))
	for i := range 60 {
		n, last := 1+i%20, drawFull(r, 0, 10)
		p, want := last, power(t, last[0], 2*n-2)
		var roots []api.Rat
		for range n {
			x := drawRat(r, 2+i)
			for _, y := range roots {
				gap := fraction.Sub(x, y)
				want = product(want, gap, gap)
			}
			roots, p = append(roots, x), mul(t, p, linear(x))
		}
		expectRat(t, "the discriminant of "+show(p), discriminant(t, p), want)
	}
}

// P8.5: what Bezout returns is accepted, u and v have the degrees of the chapter, and g is the greatest
// common divisor.
func TestAccepted(t *testing.T) {
	r := rand.New(rand.NewSource(37))
	for i := range 250 {
		bits := 2 + i%60
		c := drawFull(r, i%12, bits)
		p, q := mul(t, c, drawFull(r, 1+i%20, bits)), mul(t, c, drawFull(r, 20-i%20, bits))
		u, v, g := bezout(t, p, q)
		if !accepts(t, p, q, u, v, g) {
			t.Fatalf("Bezout(%s, %s): not accepted: %s, %s, %s", show(p), show(q), show(u), show(v), show(g))
		}
		expect(t, "g", g, must[api.Poly](t)(poly.Gcd(p, q)))
		if n := poly.Degree(q) - poly.Degree(g); poly.Degree(u) >= max(n, 1) || n == 0 && len(u) > 0 {
			t.Fatalf("Bezout(%s, %s): %s", show(p), show(q), show(u))
		}
		// Other sums that give g: u + q and v - p, u and v with a multiple of q / g and p / g.
		x, y := must[api.Poly](t)(poly.Add(u, q)), must[api.Poly](t)(poly.Sub(v, p))
		if !accepts(t, p, q, x, y, g) {
			t.Fatalf("not accepted: %s, %s, %s, %s, %s", show(p), show(q), show(x), show(y), show(g))
		}
	}
}

// P8.5: an accepted g is the greatest common divisor: anything else is refused.
func TestRefused(t *testing.T) {
	r := rand.New(rand.NewSource(38))
	for i := range 120 {
		bits := 2 + i%30
		c := drawFull(r, i%6, bits)
		p, q := mul(t, c, drawFull(r, 1+i%8, bits)), mul(t, c, drawFull(r, 1+i%9, bits))
		u, v, g := bezout(t, p, q)
		double := func(l api.Poly) api.Poly { return must[api.Poly](t)(poly.Scale(l, rat("2"))) }
		more := func(l api.Poly) api.Poly { return must[api.Poly](t)(poly.Add(l, list("1"))) }
		times := drawFull(r, 3, bits)
		for k, x := range [][3]api.Poly{
			{double(u), double(v), double(g)},
			{more(u), v, g},
			{u, more(v), g},
			{u, v, more(g)},
			{u, v, nil},
			{nil, nil, nil},
			{nil, nil, g},
			{u, v, double(g)},
			{mul(t, u, times), mul(t, v, times), mul(t, g, times)},
			{mul(t, u, list("0 1")), mul(t, v, list("0 1")), mul(t, g, list("0 1"))},
		} {
			if k == 8 && same(times, list("1")) {
				continue
			}
			if accepts(t, p, q, x[0], x[1], x[2]) {
				t.Fatalf("%s, %s: accepted: %s, %s, %s", show(p), show(q), show(x[0]), show(x[1]), show(x[2]))
			}
		}
		if wrong := drawPoly(r, 3, bits); !same(wrong, g) && accepts(t, p, q, u, v, wrong) {
			t.Fatalf("%s, %s: accepted: %s", show(p), show(q), show(wrong))
		}
	}
}

// P8.5: with 0, with constants, and with divisors of one another.
func TestDegenerate(t *testing.T) {
	for _, p := range append(edges(), longest(64), longest(40)) {
		g := must[api.Poly](t)(poly.Gcd(p, nil))
		inverse := power(t, p[len(p)-1], -1)
		for i, x := range []struct{ p, q, u, v api.Poly }{
			{p, nil, api.Poly{inverse}, nil},
			{nil, p, nil, api.Poly{inverse}},
			{p, p, nil, api.Poly{inverse}},
			{p, g, nil, list("1")},
		} {
			u, v, common := bezout(t, x.p, x.q)
			if !same(u, x.u) || !same(v, x.v) || !same(common, g) {
				t.Fatalf("%d, %s: %s, %s, %s", i, show(p), show(u), show(v), show(common))
			}
			if !accepts(t, x.p, x.q, u, v, common) {
				t.Fatalf("%d: not accepted: %s", i, show(p))
			}
		}
		if ok, err := resultant.Accepts(nil, nil, p, p, nil); ok || err != nil {
			t.Fatalf("the greatest common divisor of 0 and 0 is not monic: %v, %v", ok, err)
		}
	}
}
