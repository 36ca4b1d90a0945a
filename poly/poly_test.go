package poly_test

import (
	"math/rand"
	"slices"
	"testing"

	"linkwork/api"
	"linkwork/fraction"
	"linkwork/interval"
	"linkwork/poly"
)

// P5.1: the examples of the chapter.
func TestExamples(t *testing.T) {
	p := list("2 -3 1")
	c, r := div(t, p, list("-1 1"))
	expect(t, "the quotient", c, list("-2 1"))
	expect(t, "the rest", r, nil)
	if s, err := poly.Text(p); s != "1 x^2 + -3 x + 2" || err != nil {
		t.Errorf("Text: %s, %v", s, err)
	}
	expect(t, "Free", free(t, product(t, list("-1 1"), list("-1 1"), list("2 1"))), list("-2 1 1"))
	expect(t, "Through", through(t, list("0 1 2"), list("1 2 5")), list("1 0 1"))
}

// P5.1: Check looks at the length, then at all fractions, then at the last one.
func TestCheck(t *testing.T) {
	for _, p := range edges() {
		if err := poly.Check(p); err != nil {
			t.Errorf("Check(%s): %v", show(p), err)
		}
	}
	empty := api.Rat{Num: []uint32{}, Den: []uint32{}}
	for i, x := range []struct {
		p    api.Poly
		want error
	}{
		{longest(64), nil},
		{longest(65), api.ErrLarge},
		{longest(100), api.ErrLarge},
		{make(api.Poly, 65), api.ErrZero},
		{make(api.Poly, 66), api.ErrLarge},
		{list("0"), api.ErrZero},
		{list("1 2 0"), api.ErrZero},
		{api.Poly{empty, num("1")}, nil},
		{api.Poly{num("1"), empty}, api.ErrZero},
		{slices.Repeat(badRats(), 10), api.ErrLarge},
	} {
		if err := poly.Check(x.p); err != x.want {
			t.Errorf("%d: %v, not %v", i, err, x.want)
		}
	}
	for _, bad := range badRats() {
		for _, p := range []api.Poly{{bad}, {bad, num("1")}, {num("1"), bad}, {num("1"), bad, num("1")}, {bad, {}}} {
			if err := poly.Check(p); err != api.ErrForm {
				t.Errorf("Check(%v): %v", p, err)
			}
		}
	}
}

// P5.1: Trim cuts off zeros of lists of any length, in which fractions that are not valid count as 0.
func TestTrim(t *testing.T) {
	for _, p := range edges() {
		expect(t, "Trim", poly.Trim(p), p)
		expect(t, "Trim", poly.Trim(append(copyPoly(p), api.Rat{}, api.Rat{})), p)
		expect(t, "Trim", poly.Trim(append(copyPoly(p), badRats()...)), p)
		if n := poly.Degree(p); n != len(p)-1 {
			t.Errorf("Degree(%s): %d", show(p), n)
		}
	}
	for _, bad := range badRats() {
		expect(t, "Trim", poly.Trim([]api.Rat{bad, num("1"), bad, num("2/3"), bad}), list("0 1 0 2/3"))
	}
	for _, n := range []int{64, 65, 66, 1000} {
		expect(t, "Trim", poly.Trim(append(longest(n), make(api.Poly, n)...)), longest(n))
		expect(t, "Trim", poly.Trim(make(api.Poly, n)), nil)
		if d := poly.Degree(longest(n)); d != n {
			t.Errorf("Degree: %d, not %d", d, n)
		}
	}
	if n := poly.Degree(badRats()); n != len(badRats())-1 {
		t.Errorf("Degree of fractions that are not valid: %d", n)
	}
}

// P5.1: functions of two polynomials, compared with the rules.
func TestTwoPolys(t *testing.T) {
	r := rand.New(rand.NewSource(1))
	for _, x := range pairs(t, r) {
		p, q := x[0], x[1]
		a, b := toModel(t, p), toModel(t, q)
		expect(t, "Add", add(t, p, q), a.add(b).poly())
		expect(t, "Sub", sub(t, p, q), a.sub(b).poly())
		expect(t, "Mul", mul(t, p, q), a.mul(b).poly())
		expect(t, "Gcd", gcd(t, p, q), a.gcd(b).poly())
		if len(q) == 0 {
			continue
		}
		c, rest := div(t, p, q)
		quotient, left := a.div(b)
		expect(t, "the quotient", c, quotient.poly())
		expect(t, "the rest", rest, left.poly())
	}
}

// P5.1: functions of one polynomial, and of one and a fraction, compared with the rules.
func TestOnePoly(t *testing.T) {
	r := rand.New(rand.NewSource(2))
	for i, x := range pairs(t, r) {
		p := x[i%2]
		m := toModel(t, p)
		expect(t, "Derive", derive(t, p), m.derive().poly())
		expect(t, "Free", free(t, p), m.free().poly())
		if s, err := poly.Text(p); s != m.text() || err != nil {
			t.Fatalf("Text: %s, %v, not %s", s, err, m.text())
		}
		for _, c := range []api.Rat{{}, num("1"), num("-1"), num("-2/3"), drawRat(r, 90)} {
			b := toBig(t, c)
			expect(t, "Scale", scale(t, p, c), m.scale(b).poly())
			if y := eval(t, p, c); !sameRat(y, fromBig(m.eval(b))) {
				t.Fatalf("Eval(%s, %v): %s, not %v", show(p), b, fraction.Text(y), m.eval(b))
			}
		}
	}
}

// P5.1: compositions, compared with the rules; also with constants, of which there may remain nothing.
func TestCompose(t *testing.T) {
	r := rand.New(rand.NewSource(3))
	check := func(p, q api.Poly) {
		t.Helper()
		expect(t, "Compose", compose(t, p, q), toModel(t, p).compose(toModel(t, q)).poly())
	}
	for _, p := range edges() {
		for _, q := range edges() {
			check(p, q)
		}
		check(p, longest(16))
		if len(p) < 2 {
			check(p, longest(64))
			check(longest(64), p)
		}
	}
	for i := range 200 {
		bits := 2 + i%60
		check(drawPoly(r, 8, bits), drawPoly(r, 8, bits))
		check(drawPoly(r, 20, bits), drawPoly(r, 3, bits))
	}
	expect(t, "at a root", compose(t, list("2 -3 1"), list("2")), nil)
	expect(t, "at 0", compose(t, list("0 -3 1"), nil), nil)
	expect(t, "at 0", compose(t, list("5/7 -3 1"), nil), list("5/7"))
	expect(t, "of 0", compose(t, nil, list("1 1")), nil)
}

// P5.1: products and compositions of the degree MaxDegree are computed, greater ones refused.
func TestGreatDegrees(t *testing.T) {
	for n := range 65 {
		for k := range 65 {
			p, q := longest(n), longest(k)
			c, err := poly.Mul(p, q)
			if n+k > api.MaxDegree {
				expectError(t, "Mul", c, err, api.ErrLarge)
			} else if c = must(t, c, err); poly.Degree(c) != n+k {
				t.Fatalf("Mul, degrees %d and %d: %d", n, k, poly.Degree(c))
			}
			c, err = poly.Compose(p, q)
			if n*k > api.MaxDegree {
				expectError(t, "Compose", c, err, api.ErrLarge)
			} else if c = must(t, c, err); poly.Degree(c) != n*k {
				t.Fatalf("Compose, degrees %d and %d: %d", n, k, poly.Degree(c))
			}
		}
	}
	expect(t, "Mul by 0", mul(t, longest(64), nil), nil)
	expect(t, "Mul by 0", mul(t, nil, longest(64)), nil)
	expect(t, "Compose with 0", compose(t, longest(64), nil), nil)
	expect(t, "Compose of 0", compose(t, nil, longest(64)), nil)
	expect(t, "Compose of a constant", compose(t, list("3"), longest(64)), list("3"))
	expect(t, "Sub", sub(t, longest(64), longest(64)), nil)
}

// expectError checks that there is an error, and no other result.
func expectError(t *testing.T, what string, got api.Poly, err error, want api.Errno) {
	t.Helper()
	if err != want || len(got) > 0 {
		t.Fatalf("%s: %s, %v, not %v", what, show(got), err, want)
	}
}

// P5.1: a division by 0.
func TestDivErrors(t *testing.T) {
	for _, p := range edges() {
		c, r, err := poly.Div(p, api.Poly{})
		expectError(t, "Div", c, err, api.ErrZero)
		expectError(t, "Div", r, err, api.ErrZero)
	}
}

// P5.1: fractions and intervals that are not valid count as 0.
func TestInvalidNumbers(t *testing.T) {
	for _, p := range edges() {
		for _, bad := range badRats() {
			expect(t, "Scale", scale(t, p, bad), nil)
			if y := eval(t, p, bad); !sameRat(y, append(p, api.Rat{})[0]) {
				t.Fatalf("Eval(%s, %v): %s", show(p), bad, fraction.Text(y))
			}
			for _, r := range []api.Range{{Lo: bad, Hi: num("3")}, {Lo: num("-3"), Hi: bad}, {Lo: bad, Hi: bad}} {
				checkOver(t, p, r, interval.Point(append(p, api.Rat{})[0]))
			}
		}
		checkOver(t, p, api.Range{Lo: num("2"), Hi: num("1")}, interval.Point(append(p, api.Rat{})[0]))
	}
}

// checkOver compares Over(p, r) with the wanted interval.
func checkOver(t *testing.T, p api.Poly, r, want api.Range) {
	t.Helper()
	got, err := poly.Over(p, r)
	if err != nil || !sameRat(got.Lo, want.Lo) || !sameRat(got.Hi, want.Hi) {
		t.Fatalf("Over(%s, %s): %s, %v, not %s", show(p), interval.Text(r), interval.Text(got), err, interval.Text(want))
	}
}

// P5.1: Over is Horner's rule in interval arithmetic, with the ends of all products.
func TestOver(t *testing.T) {
	r := rand.New(rand.NewSource(4))
	for i, x := range pairs(t, r) {
		a, b := drawRat(r, 40), drawRat(r, 40)
		span := api.Range{Lo: fraction.Min(a, b), Hi: fraction.Max(a, b)}
		p := x[i%2]
		var want api.Range
		for k, c := range slices.Backward(p) {
			if k < len(p)-1 {
				want = outermost(want, span)
			}
			want = api.Range{Lo: fraction.Add(want.Lo, c), Hi: fraction.Add(want.Hi, c)}
		}
		checkOver(t, p, span, want)
	}
	checkOver(t, nil, api.Range{Lo: num("-1"), Hi: num("7")}, api.Range{})
	checkOver(t, list("7/3"), api.Range{Lo: num("-1"), Hi: num("7")}, api.Range{Lo: num("7/3"), Hi: num("7/3")})
	checkOver(t, list("2 -3 1"), api.Range{Hi: num("2")}, api.Range{Lo: num("-4"), Hi: num("2")})
}

// outermost returns the least interval that contains the products of numbers of a and b.
func outermost(a, b api.Range) api.Range {
	first := fraction.Mul(a.Lo, b.Lo)
	c := api.Range{Lo: first, Hi: first}
	for _, x := range []api.Rat{fraction.Mul(a.Lo, b.Hi), fraction.Mul(a.Hi, b.Lo), fraction.Mul(a.Hi, b.Hi)} {
		c = api.Range{Lo: fraction.Min(c.Lo, x), Hi: fraction.Max(c.Hi, x)}
	}
	return c
}

// P5.1: the text of all kinds of terms.
func TestText(t *testing.T) {
	for _, x := range [][2]string{
		{"", "0"},
		{"1", "1"},
		{"-2/3", "-2/3"},
		{"0 1", "1 x"},
		{"0 -1", "-1 x"},
		{"5 1/2", "1/2 x + 5"},
		{"0 0 1", "1 x^2"},
		{"-1 0 0 0 0 0 0 0 0 0 0 -3/7", "-3/7 x^11 + -1"},
		{"18446744073709551616 0 -1 4", "4 x^3 + -1 x^2 + 18446744073709551616"},
	} {
		if s, err := poly.Text(list(x[0])); s != x[1] || err != nil {
			t.Errorf("Text: %s, %v, not %s", s, err, x[1])
		}
	}
	if s, err := poly.Text(longest(64)); s != "-5/3 x^64" || err != nil {
		t.Errorf("Text: %s, %v", s, err)
	}
}

// P5.1: the errors of Through, in their order.
func TestThroughErrors(t *testing.T) {
	bad, many := badRats()[0], make([]api.Rat, 66)
	for i := range many {
		many[i] = fraction.Of(i)
	}
	for i, x := range []struct {
		x, y []api.Rat
		want api.Errno
	}{
		{list("1"), nil, api.ErrShape},
		{nil, list("1"), api.ErrShape},
		{many, many[:65], api.ErrShape},
		{make([]api.Rat, 67), slices.Repeat([]api.Rat{bad}, 66), api.ErrShape},
		{many, many, api.ErrLarge},
		{slices.Repeat([]api.Rat{bad}, 66), many, api.ErrLarge},
		{make([]api.Rat, 66), many, api.ErrLarge},
		{[]api.Rat{num("1"), num("1"), bad}, list("1 2 3"), api.ErrForm},
		{list("1 1 3"), []api.Rat{num("1"), num("2"), bad}, api.ErrForm},
		{[]api.Rat{bad, bad}, list("1 2"), api.ErrForm},
		{list("1 1"), list("1 2"), api.ErrTwice},
		{list("1 1"), list("2 2"), api.ErrTwice},
		{list("3 1/2 7 0 1/2"), list("1 2 3 4 5"), api.ErrTwice},
		{append(list("-4294967297"), list("0 1 4294967297 -4294967297")...), list("1 2 3 4 5"), api.ErrTwice},
		{[]api.Rat{{}, num("1"), {Num: []uint32{}, Den: []uint32{}}}, list("1 2 3"), api.ErrTwice},
	} {
		p, err := poly.Through(x.x, x.y)
		if err != x.want || len(p) > 0 {
			t.Errorf("%d: %s, %v, not %v", i, show(p), err, x.want)
		}
	}
	for _, wrong := range badRats() {
		p, err := poly.Through([]api.Rat{wrong}, list("1"))
		expectError(t, "Through", p, err, api.ErrForm)
		p, err = poly.Through(list("1"), []api.Rat{wrong})
		expectError(t, "Through", p, err, api.ErrForm)
	}
	expect(t, "65 points", through(t, many[:65], many[:65]), list("0 1"))
	expect(t, "no points", through(t, nil, nil), nil)
}
