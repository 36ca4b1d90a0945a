package bipoly_test

import (
	"math/rand"
	"testing"

	"linkwork/api"
	"linkwork/fraction"
	"linkwork/poly"
	"linkwork/tower"
)

// P9.2: the laws of a ring.
func TestRing(t *testing.T) {
	r := rand.New(rand.NewSource(70))
	for _, pair := range pairs(r) {
		p, q := pair[0], pair[1]
		expect(t, "p + q", add(t, p, q), add(t, q, p))
		expect(t, "p q", mul(t, p, q), mul(t, q, p))
		expect(t, "p - q", sub(t, p, q), add(t, p, scale(t, q, rat("-1"))))
		expect(t, "p - q + q", add(t, sub(t, p, q), q), p)
		expect(t, "p - p", sub(t, p, p), nil)
		expect(t, "p + 0", add(t, p, nil), p)
		expect(t, "1 p", mul(t, of("1 0 0"), p), p)
		expect(t, "p + p", add(t, p, p), scale(t, p, rat("2")))
		x := drawRat(r, 20)
		expect(t, "x (p q)", scale(t, mul(t, p, q), x), mul(t, p, scale(t, q, x)))
	}
	for i := range 150 {
		bits := 2 + i%50
		p, q, s := draw(r, 8, 8, bits), draw(r, 8, 8, bits), draw(r, 8, 8, bits)
		expect(t, "(p + q) + s", add(t, add(t, p, q), s), add(t, p, add(t, q, s)))
		expect(t, "(p q) s", mul(t, mul(t, p, q), s), mul(t, p, mul(t, q, s)))
		expect(t, "p (q + s)", mul(t, p, add(t, q, s)), add(t, mul(t, p, q), mul(t, p, s)))
	}
}

// P9.2: values of sums and products are those of the values, by fractions.
func TestValues(t *testing.T) {
	r := rand.New(rand.NewSource(71))
	for i, pair := range pairs(r) {
		p, q, x, y := pair[0], pair[1], drawRat(r, 2+i%40), drawRat(r, 2+i%40)
		a, b := eval(t, p, x, y), eval(t, q, x, y)
		expectRat(t, "p + q", eval(t, add(t, p, q), x, y), fraction.Add(a, b))
		expectRat(t, "p - q", eval(t, sub(t, p, q), x, y), fraction.Sub(a, b))
		expectRat(t, "p q", eval(t, mul(t, p, q), x, y), fraction.Mul(a, b))
		expectRat(t, "y p", eval(t, scale(t, p, y), x, y), fraction.Mul(a, y))
	}
}

// P9.2: the same in towers; the values at fractions are those by fractions.
func TestTowerValues(t *testing.T) {
	r := rand.New(rand.NewSource(72))
	num := must[api.Num](t)
	for i := range 150 {
		u := towers()[i%6]
		p, q, x, y := draw(r, 5, 5, 9), draw(r, 5, 5, 9), drawNum(r, u, 3), drawNum(r, u, 3)
		a, b := at(t, u, p, x, y), at(t, u, q, x, y)
		expectList(t, "p + q", at(t, u, add(t, p, q), x, y), num(tower.Add(u, a, b)))
		expectList(t, "p - q", at(t, u, sub(t, p, q), x, y), num(tower.Sub(u, a, b)))
		expectList(t, "p q", at(t, u, mul(t, p, q), x, y), num(tower.Mul(u, a, b)))
		c, d := drawRat(r, 9), drawRat(r, 9)
		expectList(t, "p at fractions", at(t, u, p, tower.Of(c), tower.Of(d)), tower.Of(eval(t, p, c, d)))
	}
}

// P9.3: fixing both variables one after the other is evaluating.
func TestFixing(t *testing.T) {
	r := rand.New(rand.NewSource(73))
	for i := range 200 {
		p, x, y := draw(r, i%25, 24, 2+i%30), drawRat(r, 2+i%30), drawRat(r, 2+i%30)
		value := must[api.Rat](t)
		expectRat(t, "y, then x", value(poly.Eval(fix(t, p, true, y), x)), eval(t, p, x, y))
		expectRat(t, "x, then y", value(poly.Eval(fix(t, p, false, x), y)), eval(t, p, x, y))
	}
}

// P9.3: the partial derivatives commute, are linear, and follow the product rule.
func TestPartials(t *testing.T) {
	r := rand.New(rand.NewSource(74))
	for i, pair := range pairs(r) {
		p, q := pair[0], pair[1]
		expect(t, "by x and y", partial(t, partial(t, p, false), true), partial(t, partial(t, p, true), false))
		for _, byY := range []bool{false, true} {
			a, b := partial(t, p, byY), partial(t, q, byY)
			expect(t, "of p + q", partial(t, add(t, p, q), byY), add(t, a, b))
			expect(t, "of p q", partial(t, mul(t, p, q), byY), add(t, mul(t, a, q), mul(t, p, b)))
			c := drawRat(r, 2+i%20)
			slope := must[api.Poly](t)(poly.Derive(fix(t, p, !byY, c)))
			expectList(t, "with the other variable fixed", fix(t, a, !byY, c), slope)
		}
	}
}

// P9.4: Top of a product is the product of the Tops.
func TestTopsOfProducts(t *testing.T) {
	r := rand.New(rand.NewSource(75))
	for _, pair := range pairs(r) {
		p, q := pair[0], pair[1]
		expect(t, "Top of p q", top(t, mul(t, p, q)), mul(t, top(t, p), top(t, q)))
		expect(t, "Top of Top", top(t, top(t, p)), top(t, p))
		if rest := sub(t, p, top(t, p)); len(p) > 0 && degree(t, rest) >= degree(t, p) {
			t.Fatalf("p without its Top %s: %s", show(top(t, p)), show(rest))
		}
		for _, s := range top(t, p) {
			if s.I+s.J != degree(t, p) {
				t.Fatalf("Top of %s: %s", show(p), show(top(t, p)))
			}
		}
	}
}

// P9.4: a multiple by a fraction is the Same, whichever comes first; anything else is not.
func TestMultiples(t *testing.T) {
	r := rand.New(rand.NewSource(76))
	for i, pair := range pairs(r) {
		p, q, c := pair[0], pair[1], drawRat(r, 2+i%50)
		if fraction.Sign(c) == 0 {
			c = rat("-1/4294967296")
		}
		multiple := scale(t, p, c)
		if !isSame(t, p, multiple) || !isSame(t, multiple, p) {
			t.Fatalf("%s and %s", show(p), show(multiple))
		}
		// With q they are the Same if one of the fractions between their terms leads from q to p.
		want := len(p) == 0 && len(q) == 0
		if len(p) > 0 && len(q) > 0 {
			ratio := must[api.Rat](t)(fraction.Div(p[0].C, q[0].C))
			want = same(p, scale(t, q, ratio))
		}
		if isSame(t, p, q) != want || isSame(t, q, p) != want {
			t.Fatalf("%s and %s: %v", show(p), show(q), !want)
		}
		for k := range p {
			changed := append(api.BiPoly{}, multiple...)
			changed[k].C = fraction.Mul(changed[k].C, rat("-1"))
			if isSame(t, p, changed) != (len(p) == 1) {
				t.Fatalf("%s and %s", show(p), show(changed))
			}
		}
	}
}
