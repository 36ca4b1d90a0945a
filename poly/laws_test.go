package poly_test

import (
	"math/rand"
	"slices"
	"testing"

	"linkwork/api"
	"linkwork/fraction"
	"linkwork/interval"
	"linkwork/poly"
)

// P5.2: the laws of a ring.
func TestRing(t *testing.T) {
	r := rand.New(rand.NewSource(7))
	one := list("1")
	for i := range 400 {
		bits := 2 + i%80
		p, q, s := drawPoly(r, 20, bits), drawPoly(r, 20, bits), drawPoly(r, 20, bits)
		expect(t, "p + q = q + p", add(t, p, q), add(t, q, p))
		expect(t, "(p + q) + s = p + (q + s)", add(t, add(t, p, q), s), add(t, p, add(t, q, s)))
		expect(t, "p + 0 = p", add(t, p, nil), p)
		expect(t, "p - p = 0", sub(t, p, p), nil)
		expect(t, "(p - q) + q = p", add(t, sub(t, p, q), q), p)
		expect(t, "p q = q p", mul(t, p, q), mul(t, q, p))
		expect(t, "(p q) s = p (q s)", mul(t, mul(t, p, q), s), mul(t, p, mul(t, q, s)))
		expect(t, "p (q + s) = p q + p s", mul(t, p, add(t, q, s)), add(t, mul(t, p, q), mul(t, p, s)))
		expect(t, "p 1 = p", mul(t, p, one), p)
		expect(t, "p 0 = 0", mul(t, p, nil), nil)
		c := drawRat(r, bits)
		expect(t, "Scale is Mul by a constant", scale(t, p, c), mul(t, p, poly.Trim([]api.Rat{c})))
		if len(p) > 0 && len(q) > 0 && poly.Degree(mul(t, p, q)) != poly.Degree(p)+poly.Degree(q) {
			t.Fatalf("the degree of %s times %s", show(p), show(q))
		}
	}
}

// P5.2: the values of sums, products and compositions are those of the values.
func TestValues(t *testing.T) {
	r := rand.New(rand.NewSource(8))
	for i := range 300 {
		bits := 2 + i%80
		p, q, x := drawPoly(r, 30, bits), drawPoly(r, 30, bits), drawRat(r, bits)
		a, b := eval(t, p, x), eval(t, q, x)
		checkValue(t, "Add", add(t, p, q), x, fraction.Add(a, b))
		checkValue(t, "Sub", sub(t, p, q), x, fraction.Sub(a, b))
		checkValue(t, "Mul", mul(t, p, q), x, fraction.Mul(a, b))
		checkValue(t, "Scale", scale(t, p, b), x, fraction.Mul(a, b))
		p, q = drawPoly(r, 8, bits), drawPoly(r, 8, bits)
		checkValue(t, "Compose", compose(t, p, q), x, eval(t, p, eval(t, q, x)))
		expect(t, "x in place of x", compose(t, p, list("0 1")), p)
		expect(t, "in place of x", compose(t, list("0 1"), p), p)
		s := drawPoly(r, 8, 20)
		expect(t, "(p + q)(s) = p(s) + q(s)", compose(t, add(t, p, q), s), add(t, compose(t, p, s), compose(t, q, s)))
	}
}

// checkValue compares the value of p at x with the wanted one.
func checkValue(t *testing.T, what string, p api.Poly, x, want api.Rat) {
	t.Helper()
	if y := eval(t, p, x); !sameRat(y, want) {
		t.Fatalf("the value of %s at %s: %s, not %s", what, fraction.Text(x), fraction.Text(y), fraction.Text(want))
	}
}

// P5.3: p = quotient * q + rest, and the degree of the rest is less than that of q.
func TestQuotients(t *testing.T) {
	r := rand.New(rand.NewSource(9))
	for i := range 150 {
		bits := 2 + i%100
		p, q := drawPoly(r, 64, bits), drawPoly(r, 1+i%64, bits)
		if len(q) == 0 {
			continue
		}
		c, rest := div(t, p, q)
		if poly.Degree(rest) >= poly.Degree(q) {
			t.Fatalf("the rest of %s by %s: %s", show(p), show(q), show(rest))
		}
		expect(t, "quotient * q + rest", add(t, mul(t, c, q), rest), p)
		// The only ones: a product of q, and anything of a lower degree.
		factor := drawPoly(r, 64-poly.Degree(q), bits)
		c, left := div(t, add(t, mul(t, factor, q), rest), q)
		expect(t, "the quotient", c, factor)
		expect(t, "the rest", left, rest)
	}
}

// divides reports whether d divides p. Only 0 is divided by 0.
func divides(t *testing.T, d, p api.Poly) bool {
	t.Helper()
	if len(d) == 0 {
		return len(p) == 0
	}
	_, rest := div(t, p, d)
	return len(rest) == 0
}

// monic reports whether p is 0 or has the last coefficient 1.
func monic(p api.Poly) bool {
	return len(p) == 0 || sameRat(p[len(p)-1], num("1"))
}

// P5.3: the greatest common divisor divides both, and every common divisor divides it.
func TestDivisors(t *testing.T) {
	r := rand.New(rand.NewSource(10))
	for i := range 400 {
		bits := 2 + i%100
		c := drawPoly(r, 1+i%20, bits)
		p, q := mul(t, c, drawPoly(r, 30, bits)), mul(t, c, drawPoly(r, 30, bits))
		g := gcd(t, p, q)
		if !monic(g) || !divides(t, g, p) || !divides(t, g, q) || !(divides(t, c, g) || len(g) == 0) {
			t.Fatalf("Gcd(%s, %s): %s", show(p), show(q), show(g))
		}
		expect(t, "Gcd(q, p)", gcd(t, q, p), g)
		expect(t, "Gcd(p, -2/3 q)", gcd(t, p, scale(t, q, num("-2/3"))), g)
		expect(t, "Gcd(p, q + p)", gcd(t, p, add(t, q, p)), g)
		expect(t, "Gcd(p, 0)", gcd(t, p, nil), gcd(t, p, p))
		expect(t, "Gcd(0, p)", gcd(t, nil, p), gcd(t, p, p))
		if len(p) > 0 {
			expect(t, "Gcd(p, p)", gcd(t, p, p), scale(t, p, inverse(p[len(p)-1])))
		}
	}
	expect(t, "Gcd(0, 0)", gcd(t, nil, nil), nil)
	expect(t, "Gcd(0, -3)", gcd(t, nil, list("-3")), list("1"))
}

// inverse returns 1 / x.
func inverse(x api.Rat) api.Rat {
	y, err := fraction.Power(x, -1)
	if err != nil {
		panic("a division by 0")
	}
	return y
}

// P5.3: polynomials with further common divisors modulo the greatest primes below 2^31, or with
// last coefficients that these primes divide, have no others for that.
func TestPrimes(t *testing.T) {
	primes := []string{"2147483647", "2147483629", "2147483587", "2147483579", "2147483563", "2147483549"}
	common := []api.Poly{list("1"), list("-1 1"), list("3 -2 7"), list("123456789123456789 5 0 -987654321987654321987654321")}
	for _, c := range common {
		want := gcd(t, c, c)
		for i, s := range primes {
			m := num(s)
			shift := fraction.Add(m, num("2"))
			next := fraction.Mul(m, num(primes[(i+1)%len(primes)]))
			for k, x := range [][2]api.Poly{
				{list("-2 1"), {fraction.Neg(shift), num("1")}},
				{list("-2 1"), {fraction.Sub(num("-2"), next), num("1")}},
				{list("-2 1"), {num("5"), m}},
				{{num("-2"), m}, {num("5"), m}},
				{{num("-2"), num("1"), m}, {num("-2"), num("1"), next}},
				{{m, m, num("1")}, {next, num("0"), num("1")}},
				{{num("1"), num("0"), next}, {num("4"), num("1"), num("0"), next}},
			} {
				p, q := mul(t, c, x[0]), mul(t, c, x[1])
				if g := gcd(t, p, q); !same(g, want) {
					t.Errorf("%s, pair %d: %s, not %s", s, k, show(g), show(want))
				}
				expect(t, "Gcd(q, p)", gcd(t, q, p), want)
				both := product(t, c, x[0], x[1])
				expect(t, "Free", free(t, both), toModel(t, both).free().poly())
			}
		}
	}
}

// P5.4: the derivative is linear, follows the product rule, and that of the powers is n x^(n - 1).
func TestDerivatives(t *testing.T) {
	r := rand.New(rand.NewSource(11))
	for i := range 300 {
		bits := 2 + i%80
		p, q := drawPoly(r, 32, bits), drawPoly(r, 32, bits)
		left := derive(t, mul(t, p, q))
		expect(t, "(p q)'", left, add(t, mul(t, derive(t, p), q), mul(t, p, derive(t, q))))
		expect(t, "(p + q)'", derive(t, add(t, p, q)), add(t, derive(t, p), derive(t, q)))
		p, q = drawPoly(r, 8, bits), drawPoly(r, 8, bits)
		expect(t, "p(q)'", derive(t, compose(t, p, q)), mul(t, compose(t, derive(t, p), q), derive(t, q)))
	}
	for n := 1; n <= 64; n++ {
		want := append(make(api.Poly, n-1), fraction.Mul(fraction.Of(n), num("-5/3")))
		expect(t, "the derivative of a power", derive(t, longest(n)), want)
	}
	expect(t, "of a constant", derive(t, list("-5/3")), nil)
	expect(t, "of 0", derive(t, nil), nil)
}

// P5.4: Free of powers of different factors without multiple roots is their product: its degree is the
// number of different roots.
func TestFree(t *testing.T) {
	r := rand.New(rand.NewSource(12))
	for i := range 200 {
		factors := []api.Poly{list("1 0 1"), list("-2 0 0 1"), list("5 1 1")}[:i%4]
		for _, x := range points(r, 1+i%6, 2+i%60) {
			factors = append(factors, api.Poly{fraction.Neg(x), num("1")})
		}
		roots := product(t, factors...)
		p := scale(t, roots, num("-7/3"))
		for _, f := range factors {
			for range r.Intn(4) {
				p = mul(t, p, f)
			}
		}
		f := free(t, p)
		expect(t, "Free", f, roots)
		expect(t, "Free of Free", free(t, f), f)
		if !divides(t, f, p) {
			t.Fatalf("Free(%s): %s", show(p), show(f))
		}
		expect(t, "no multiple roots", gcd(t, f, derive(t, f)), list("1"))
	}
	for _, n := range []int{1, 2, 63, 64} {
		expect(t, "Free of a power", free(t, longest(n)), list("0 1"))
	}
	expect(t, "Free of a power", free(t, power(t, "1/2 -1/3", 64)), list("-3/2 1"))
	expect(t, "Free of a power", free(t, power(t, "2 0 1", 32)), list("2 0 1"))
	expect(t, "Free of a constant", free(t, list("-5/3")), list("1"))
	expect(t, "Free of 0", free(t, nil), nil)
}

// points returns n different fractions.
func points(r *rand.Rand, n, bits int) []api.Rat {
	var all []api.Rat
	for len(all) < n {
		x := drawRat(r, bits)
		if !slices.ContainsFunc(all, func(y api.Rat) bool { return sameRat(x, y) }) {
			all = append(all, x)
		} else {
			bits++
		}
	}
	return all
}

// P5.5: Over contains the value at every number of the interval, and is inside of that of a wider one.
func TestOverContains(t *testing.T) {
	r := rand.New(rand.NewSource(13))
	for i := range 400 {
		p := drawPoly(r, 1+i%30, 2+i%40)
		a, b := drawRat(r, 12), drawRat(r, 12)
		span := api.Range{Lo: fraction.Min(a, b), Hi: fraction.Max(a, b)}
		values := over(t, p, span)
		for k := range 9 {
			part := fraction.Mul(fraction.Of(k), num("1/8"))
			x := fraction.Add(span.Lo, fraction.Mul(interval.Width(span), part))
			if y := eval(t, p, x); !interval.Contains(values, y) {
				t.Fatalf("Over(%s, %s) without the value at %s", show(p), interval.Text(span), fraction.Text(x))
			}
		}
		wider := api.Range{Lo: fraction.Sub(span.Lo, num("1/3")), Hi: fraction.Add(span.Hi, num("2"))}
		if !interval.Inside(values, over(t, p, wider)) {
			t.Fatalf("Over(%s, %s) is not inside of that of %s", show(p), interval.Text(span), interval.Text(wider))
		}
		y := eval(t, p, a)
		checkOver(t, p, interval.Point(a), api.Range{Lo: y, Hi: y})
	}
}

// over returns Over(p, r), which has to be valid.
func over(t *testing.T, p api.Poly, r api.Range) api.Range {
	t.Helper()
	values, err := poly.Over(p, r)
	if err != nil || !interval.Valid(values) {
		t.Fatalf("Over(%s, %s): %v, %v", show(p), interval.Text(r), values, err)
	}
	return values
}

// P5.6: Through passes through its points with less than n coefficients, and is the only one that does.
func TestThrough(t *testing.T) {
	r := rand.New(rand.NewSource(14))
	for i := range 200 {
		x := points(r, 1+i%12, 2+i%60)
		y := make([]api.Rat, len(x))
		for k := range y {
			y[k] = drawRat(r, 2+i%60)
		}
		checkThrough(t, x, y)
		// The values of a polynomial of less than n coefficients lead back to it.
		p := drawPoly(r, len(x)-1, 2+i%60)
		for k := range y {
			y[k] = eval(t, p, x[k])
		}
		expect(t, "the polynomial", through(t, x, y), p)
	}
	expect(t, "one point", through(t, list("5/7"), list("-2/3")), list("-2/3"))
	expect(t, "one point", through(t, list("5/7"), list("0")), nil)
	expect(t, "a line", through(t, list("1 2 3 4"), list("3 5 7 9")), list("1 2"))
	expect(t, "zeros", through(t, list("1 2 3 4"), list("0 0 0 0")), nil)
}

// checkThrough checks Through(x, y) by its values, in any order of the points.
func checkThrough(t *testing.T, x, y []api.Rat) {
	t.Helper()
	p := through(t, x, y)
	if len(p) > len(x) {
		t.Fatalf("%d coefficients for %d points", len(p), len(x))
	}
	for k := range x {
		checkValue(t, "Through", p, x[k], y[k])
	}
	a, b := slices.Clone(x), slices.Clone(y)
	slices.Reverse(a)
	slices.Reverse(b)
	expect(t, "Through the same points", through(t, a, b), p)
}

// P5.6: as many points as there may be.
func TestManyPoints(t *testing.T) {
	r := rand.New(rand.NewSource(15))
	for _, bits := range []int{1, 12} {
		var x, y []api.Rat
		for k := range 65 {
			x = append(x, fraction.Of(k-30))
			y = append(y, drawRat(r, bits))
		}
		checkThrough(t, x, y)
	}
	x := points(r, 65, 7)
	p := add(t, power(t, "1/2 -3", 64), list("7"))
	var y []api.Rat
	for _, c := range x {
		y = append(y, eval(t, p, c))
	}
	expect(t, "the polynomial", through(t, x, y), p)
}

// P5.1: the greatest degree with long coefficients takes little time.
func TestLongCoefficients(t *testing.T) {
	r := rand.New(rand.NewSource(16))
	dense := func(n, bits int) api.Poly {
		p := make(api.Poly, n+1)
		for i := range p {
			p[i] = fraction.Add(drawRat(r, bits), num("1/1000003"))
		}
		return p
	}
	p, q := dense(64, 60), dense(64, 60)
	expect(t, "Gcd", gcd(t, p, q), list("1"))
	expect(t, "Free", free(t, p), scale(t, p, inverse(p[64])))
	a, b, c := dense(32, 60), dense(32, 60), dense(32, 60)
	expect(t, "Gcd", gcd(t, mul(t, a, b), mul(t, a, c)), scale(t, a, inverse(a[32])))
	expect(t, "Free", free(t, mul(t, a, a)), scale(t, a, inverse(a[32])))
	quotient, rest := div(t, p, a)
	expect(t, "p", add(t, mul(t, quotient, a), rest), p)
	line, back := list("-3/7 5/11"), list("33/35 11/5")
	expect(t, "Compose there and back", compose(t, compose(t, p, line), back), p)
}
