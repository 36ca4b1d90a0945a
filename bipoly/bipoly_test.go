package bipoly_test

import (
	"math"
	"math/rand"
	"slices"
	"testing"

	"linkwork/api"
	"linkwork/bipoly"
	"linkwork/fraction"
	"linkwork/poly"
	"linkwork/tower"
)

// P9.1: the examples of the chapter.
func TestExamples(t *testing.T) {
	expect(t, "(x + y) (x - y)", mul(t, of("1 0 1, 1 1 0"), of("-1 0 1, 1 1 0")), of("-1 0 2, 1 2 0"))
	expectList(t, "Eliminate", eliminate(t, of("-2 0 0, 1 0 2, 1 2 0"), of("1 0 1, -1 1 0")), list("-2 0 2"))
}

// P9.1: the numbers of the limits, and that the greatest polynomial has both.
func TestLimits(t *testing.T) {
	if bipoly.MaxDegree != 24 || bipoly.MaxTerms != 325 {
		t.Fatalf("MaxDegree %d, MaxTerms %d", bipoly.MaxDegree, bipoly.MaxTerms)
	}
	r := rand.New(rand.NewSource(50))
	p := full(r, 24, 24, 9)
	if len(p) != 325 || bipoly.Check(p) != nil || degree(t, p) != 24 {
		t.Fatalf("%d terms of degree %d: %v", len(p), degree(t, p), bipoly.Check(p))
	}
	for range 20 {
		l := slices.Clone(p)
		r.Shuffle(len(l), func(i, k int) { l[i], l[k] = l[k], l[i] })
		expect(t, "Make", build(t, l), p)
	}
	expect(t, "p + p", add(t, p, p), scale(t, p, rat("2")))
	expect(t, "p - p", sub(t, p, p), nil)
	expect(t, "1 p", mul(t, of("1 0 0"), p), p)
}

// P9.1: Check looks term by term, and at each one for the errors in their order.
func TestCheck(t *testing.T) {
	bad := badRats()[0]
	for i, x := range []struct {
		p    api.BiPoly
		want error
	}{
		{nil, nil},
		{api.BiPoly{}, nil},
		{of("1 0 0"), nil},
		{of("1 0 0, -1 0 1, 2/3 1 0, 4 0 2, 5 1 1, 6 2 0, 7 0 3"), nil},
		{of("1 0 24"), nil},
		{of("1 24 0"), nil},
		{of("1 12 12"), nil},
		{of("1 0 25"), api.ErrRange},
		{of("1 25 0"), api.ErrRange},
		{of("1 13 12"), api.ErrRange},
		{of("1 -1 0"), api.ErrRange},
		{of("1 0 -1"), api.ErrRange},
		{of("1 -1 1"), api.ErrRange},
		{of("1 25 -1"), api.ErrRange},
		{of("1 -1 25"), api.ErrRange},
		{of("0 0 0"), api.ErrZero},
		{of("1 0 0, 0 0 1"), api.ErrZero},
		{of("1 0 0, 1 0 0"), api.ErrOrder},
		{of("1 1 0, 1 0 1"), api.ErrOrder},
		{of("1 0 1, 1 0 0"), api.ErrOrder},
		{of("1 0 3, 1 2 0"), api.ErrOrder},
		{of("1 2 0, 1 0 3"), nil},
		{of("1 2 1, 1 1 2"), api.ErrOrder},
		{of("1 1 2, 1 2 1"), nil},
		{of("1 0 24, 1 24 0, 1 23 1"), api.ErrOrder},
		{api.BiPoly{{I: 25, C: bad}}, api.ErrRange},
		{api.BiPoly{{J: -1}}, api.ErrRange},
		{api.BiPoly{{C: bad}}, api.ErrForm},
		{api.BiPoly{term("1", 1, 0), {C: bad}}, api.ErrForm},
		{api.BiPoly{term("1", 1, 0), {}}, api.ErrZero},
		{api.BiPoly{term("1", 1, 0), term("1", 0, 0), {J: -1}}, api.ErrOrder},
		{api.BiPoly{{C: bad}, {J: -1}}, api.ErrForm},
		{api.BiPoly{{}, {C: bad}}, api.ErrZero},
		{api.BiPoly{term("1", 2, 0), {I: 24, J: 1}, {C: bad}}, api.ErrRange},
		{make(api.BiPoly, 325), api.ErrZero},
		{make(api.BiPoly, 326), api.ErrLarge},
		{slices.Repeat(api.BiPoly{{I: -1, C: bad}}, 400), api.ErrLarge},
	} {
		if err := bipoly.Check(x.p); err != x.want {
			t.Errorf("%d, %s: %v, not %v", i, show(x.p), err, x.want)
		}
	}
	for _, c := range badRats() {
		if err := bipoly.Check(api.BiPoly{{I: 1, J: 2, C: c}}); err != api.ErrForm {
			t.Errorf("%v: %v", c, err)
		}
	}
}

// P9.1: exponents may be any ints, also ones whose sum is none.
func TestExponents(t *testing.T) {
	ends := []int{math.MinInt, math.MinInt + 24, -25, -24, -1, 0, 1, 12, 24, 25, math.MaxInt - 24, math.MaxInt}
	for _, i := range ends {
		for _, j := range ends {
			l := []api.Term{term("7", i, j)}
			p, err := bipoly.Make(l)
			if i >= 0 && j >= 0 && i <= 24 && j <= 24 && i+j <= 24 {
				expect(t, "Make", accepted(t, p, err), l)
			} else if bipoly.Check(l) != api.ErrRange || err != api.ErrRange || len(p) > 0 {
				t.Errorf("%d, %d: %v, %v", i, j, bipoly.Check(l), err)
			}
		}
	}
}

// P9.1: Make sums up the terms, whatever their order.
func TestMake(t *testing.T) {
	for _, x := range [][2]string{
		{"", ""},
		{"0 3 4", ""},
		{"1 1 0, 2 0 1, 3 1 0, 0 5 5", "2 0 1, 4 1 0"},
		{"1/2 1 1, 1 0 0, -1/2 1 1", "1 0 0"},
		{"1/2 1 1, 1/3 1 1, 1/6 1 1", "1 1 1"},
		{"5 24 0, 4 0 24, 3 12 12, 2 0 0, 1 0 1", "2 0 0, 1 0 1, 4 0 24, 3 12 12, 5 24 0"},
		{"0 0 0, -1 2 0, 0 0 1, 0 2 0", "-1 2 0"},
	} {
		expect(t, "Make of "+x[0], build(t, of(x[0])), of(x[1]))
	}
	r := rand.New(rand.NewSource(51))
	for i := range 200 {
		l := make([]api.Term, r.Intn(40))
		for k := range l {
			d := r.Intn(5)
			l[k].I = r.Intn(d + 1)
			l[k].J, l[k].C = d-l[k].I, drawRat(r, 1+i%20)
		}
		expect(t, "Make", build(t, l), toModel(l).poly())
	}
	expect(t, "Make of many zeros", build(t, make([]api.Term, 325)), nil)
	expect(t, "Make of many terms", build(t, slices.Repeat(of("1/5 2 3"), 325)), of("65 2 3"))
}

// P9.1: the errors of Make.
func TestMakeErrors(t *testing.T) {
	bad := badRats()[0]
	for i, x := range []struct {
		l    []api.Term
		want api.Errno
	}{
		{make([]api.Term, 326), api.ErrLarge},
		{slices.Repeat(api.BiPoly{{I: -1, C: bad}}, 326), api.ErrLarge},
		{of("1 0 0, 1 -1 0"), api.ErrRange},
		{of("0 13 12"), api.ErrRange},
		{[]api.Term{{I: -1, C: bad}}, api.ErrRange},
		{[]api.Term{{}, {J: 25}, {C: bad}}, api.ErrRange},
		{[]api.Term{{}, {C: bad}, {J: 25}}, api.ErrForm},
	} {
		if p, err := bipoly.Make(x.l); err != x.want || len(p) > 0 {
			t.Errorf("%d: %s, %v, not %v", i, show(p), err, x.want)
		}
	}
	for _, c := range badRats() {
		if p, err := bipoly.Make([]api.Term{term("1", 1, 0), {I: 1, C: c}}); err != api.ErrForm || len(p) > 0 {
			t.Errorf("%v: %s, %v", c, show(p), err)
		}
	}
}

// P9.1: degrees, and the terms of the highest one.
func TestTops(t *testing.T) {
	for _, x := range []struct {
		p   string
		n   int
		top string
	}{
		{"", -1, ""},
		{"-2/3 0 0", 0, "-2/3 0 0"},
		{"1 0 0, 2 1 0", 1, "2 1 0"},
		{"1 0 1, 2 1 0", 1, "1 0 1, 2 1 0"},
		{"1 2 0, 3 0 3, 4 1 2, 5 3 0", 3, "3 0 3, 4 1 2, 5 3 0"},
		{"1 0 24", 24, "1 0 24"},
		{"1 2 2, 7 12 12, 1 24 0", 24, "7 12 12, 1 24 0"},
	} {
		if n := degree(t, of(x.p)); n != x.n {
			t.Errorf("Degree of %s: %d", x.p, n)
		}
		expect(t, "Top of "+x.p, top(t, of(x.p)), of(x.top))
	}
}

// P9.1: sums, products, multiples, derivatives, values and fixed variables are those of the model.
func TestModel(t *testing.T) {
	r := rand.New(rand.NewSource(52))
	for _, pair := range pairs(r) {
		p, q, x, y := pair[0], pair[1], drawRat(r, 9), drawRat(r, 9)
		m, n := toModel(p), toModel(q)
		expect(t, "p + q", add(t, p, q), m.plus(n, 1).poly())
		expect(t, "p - q", sub(t, p, q), m.plus(n, -1).poly())
		expect(t, "p q", mul(t, p, q), m.times(n).poly())
		expect(t, "x p", scale(t, p, x), m.times(toModel([]api.Term{{C: x}})).poly())
		expect(t, "p by x", partial(t, p, false), m.derivative(0).poly())
		expect(t, "p by y", partial(t, p, true), m.derivative(1).poly())
		expectList(t, "p at x", fix(t, p, false, x), m.fix(0, toBig(x)).list())
		expectList(t, "p at y", fix(t, p, true, y), m.fix(1, toBig(y)).list())
		expectRat(t, "p at x and y", eval(t, p, x, y), m.fix(0, toBig(x)).fix(1, toBig(y)).constant())
	}
}

// P9.1: which variable is fixed, and by which one is derived.
func TestVariables(t *testing.T) {
	f := of("5 0 0, 2 0 2, 3 2 1")
	expectList(t, "x = 2", fix(t, f, false, rat("2")), list("5 12 2"))
	expectList(t, "y = 2", fix(t, f, true, rat("2")), list("13 0 6"))
	expectList(t, "x = 0", fix(t, f, false, rat("0")), list("5 0 2"))
	expectList(t, "y = 0", fix(t, f, true, rat("0")), list("5"))
	expectList(t, "a zero at the end", fix(t, of("-1 2 0, 1 2 1"), true, rat("1")), nil)
	expectList(t, "zeros at the end", fix(t, of("7 1 0, -1 2 0, 1 2 1"), true, rat("1")), list("0 7"))
	expect(t, "by x", partial(t, f, false), of("6 1 1"))
	expect(t, "by y", partial(t, f, true), of("4 0 1, 3 2 0"))
	expect(t, "by y, without y", partial(t, of("1 0 0, 2 1 0, 1 5 0"), true), nil)
	expectRat(t, "x = 2, y = -1", eval(t, f, rat("2"), rat("-1")), rat("-5"))
	expectRat(t, "x = -1, y = 2", eval(t, f, rat("-1"), rat("2")), rat("19"))
	expectRat(t, "x^24 + y^24", eval(t, of("1 0 24, 1 24 0"), rat("1/2"), rat("-1")), rat("16777217/16777216"))
}

// P9.1: fractions that are not valid count as 0.
func TestInvalidFractions(t *testing.T) {
	for _, p := range edges() {
		x, zero := rat("-3/2"), rat("0")
		for _, bad := range badRats() {
			expect(t, "Scale", scale(t, p, bad), nil)
			expectRat(t, "Eval", eval(t, p, bad, x), eval(t, p, zero, x))
			expectRat(t, "Eval", eval(t, p, x, bad), eval(t, p, x, zero))
			expectRat(t, "Eval", eval(t, p, bad, bad), toModel(p).constant())
			for _, isY := range []bool{false, true} {
				expectList(t, "Fix", fix(t, p, isY, bad), fix(t, p, isY, zero))
			}
		}
		expect(t, "0 p", scale(t, p, zero), nil)
	}
}

// P9.1: products of the degree MaxDegree, and above it.
func TestLargeProducts(t *testing.T) {
	r := rand.New(rand.NewSource(53))
	for n := range 25 {
		p := full(r, n, 24, 3)
		for _, q := range []api.BiPoly{full(r, 24-n, 24, 3), {term("2", 0, 24-n)}, {term("2", 24-n, 0)}} {
			if degree(t, mul(t, p, q)) != 24 || degree(t, mul(t, q, p)) != 24 {
				t.Fatalf("the product of %s and %s", show(p), show(q))
			}
		}
		if n == 0 {
			continue
		}
		for _, q := range []api.BiPoly{full(r, 25-n, 24, 3), {term("2", 0, 25-n)}, {term("2", 24, 0)}} {
			for _, x := range [][2]api.BiPoly{{p, q}, {q, p}} {
				if c, err := bipoly.Mul(x[0], x[1]); err != api.ErrLarge || len(c) > 0 {
					t.Fatalf("the product of %s and %s: %v", show(x[0]), show(x[1]), err)
				}
			}
		}
	}
	for _, p := range append(edges(), of("1 0 24"), full(r, 24, 24, 3)) {
		expect(t, "0 p", mul(t, nil, p), nil)
		expect(t, "p 0", mul(t, p, nil), nil)
	}
}

// P9.1: what is the Same, and what is not.
func TestSame(t *testing.T) {
	for _, x := range []struct {
		p, q string
		want bool
	}{
		{"", "", true},
		{"", "1 0 0", false},
		{"1 0 0", "", false},
		{"1 0 0", "-2/3 0 0", true},
		{"1 0 1", "1 1 0", false},
		{"1 0 1, 1 1 0", "-3 0 1, -3 1 0", true},
		{"1 0 1, 1 1 0", "-1 0 1, 1 1 0", false},
		{"1 0 1, 1 1 0", "1 0 1", false},
		{"1 0 1", "1 0 1, 1 1 0", false},
		{"1 0 0, 2 1 0", "2 0 0, 1 1 0", false},
		{"1 0 0, 2 1 0, 3 2 0", "1/2 0 0, 1 1 0, 3/2 2 0", true},
		{"1 0 0, 2 1 0, 3 2 0", "1/2 0 0, 1 1 0, 1 2 0", false},
		{"1 0 0, 2 1 0, 3 2 0", "1 0 0, 2 0 1, 3 2 0", false},
		{"1 0 0, 1 1 1", "1 0 0, 1 0 2", false},
	} {
		if isSame(t, of(x.p), of(x.q)) != x.want {
			t.Errorf("Same of %s and %s", x.p, x.q)
		}
	}
}

// P9.1: values in towers are the sums of the products of the powers, as lists.
func TestAt(t *testing.T) {
	r := rand.New(rand.NewSource(54))
	for _, u := range towers() {
		for _, p := range edges() {
			for range 3 {
				x, y := drawNum(r, u, 4), drawNum(r, u, 4)
				v := at(t, u, p, x, y)
				expectList(t, "At of "+show(p), v, sumAt(t, u, p, x, y))
			}
		}
	}
	for i := range 30 {
		u := towers()[1+i%3]
		p, x, y := draw(r, 24, 24, 5), drawNum(r, u, 3), drawNum(r, u, 3)
		expectList(t, "At of "+show(p), at(t, u, p, x, y), sumAt(t, u, p, x, y))
	}
}

// sumAt sums up the terms of p at x and y.
func sumAt(t *testing.T, u api.Tower, p api.BiPoly, x, y api.Num) api.Num {
	t.Helper()
	var sum api.Num
	for _, s := range p {
		product := api.Num{s.C}
		for range s.I {
			product = must[api.Num](t)(tower.Mul(u, product, x))
		}
		for range s.J {
			product = must[api.Num](t)(tower.Mul(u, product, y))
		}
		sum = must[api.Num](t)(tower.Add(u, sum, product))
	}
	return sum
}

// P9.1: values in towers are computed with the roots as they are, whatever their values.
func TestLists(t *testing.T) {
	two, four, zero := towers()[1], towers()[2], towers()[3]
	s := api.Num(list("0 1"))
	expectList(t, "3 s^2 + 2 + 5", at(t, two, of("5 0 0, 2 0 2, 3 2 1"), s, list("1")), list("13"))
	expectList(t, "2 - s, for the root s of 4", at(t, four, of("-1 0 1, 1 1 0"), list("2"), s), list("2 -1"))
	expectList(t, "s^2 - 4", at(t, four, of("-4 0 0, 1 2 0"), s, nil), nil)
	expectList(t, "s, for the root s of 0", at(t, zero, of("1 1 0"), s, nil), list("0 1"))
	expectList(t, "s^2", at(t, zero, of("1 1 1"), s, s), nil)
	expectList(t, "s^24", at(t, two, of("1 0 24"), nil, s), list("4096"))
	expectList(t, "s^23", at(t, two, of("1 12 11"), s, s), list("0 2048"))
	expectList(t, "(1 + s)^2", at(t, two, of("1 0 2"), nil, list("1 1")), list("3 2"))
	expectList(t, "a constant", at(t, two, of("-2/3 0 0"), s, s), list("-2/3"))
	expectList(t, "the polynomial 0", at(t, two, nil, s, s), nil)
	expectList(t, "zeros at the end", at(t, two, of("1 0 1, 1 1 0"), list("1 0"), list("0 0")), list("1"))
	expectList(t, "no root", at(t, api.Tower{}, of("1 0 1, 1 1 0"), list("1/2"), list("1/3")), list("5/6"))
}

// P9.1: the greatest towers and degrees take little time.
func TestLongNumbers(t *testing.T) {
	r := rand.New(rand.NewSource(55))
	u := towers()[6]
	x, y := api.Num(make([]api.Rat, 32)), api.Num(make([]api.Rat, 32))
	for i := range x {
		x[i], y[i] = fraction.Of(r.Intn(9)-4), fraction.Of(r.Intn(9)-4)
	}
	p, q := full(r, 12, 12, 3), full(r, 12, 12, 3)
	want := must[api.Num](t)(tower.Mul(u, at(t, u, p, x, y), at(t, u, q, x, y)))
	expectList(t, "At of a product", at(t, u, mul(t, p, q), x, y), want)
	p, q = full(r, 12, 12, 60), full(r, 12, 12, 60)
	a, b := rat("18446744073709551617/3"), rat("-1/340282366920938463463374607431768211457")
	expectRat(t, "Eval of a product", eval(t, mul(t, p, q), a, b), fraction.Mul(eval(t, p, a, b), eval(t, q, a, b)))
	p, q = full(r, 8, 4, 30), full(r, 8, 4, 30)
	if n := poly.Degree(eliminate(t, p, q)); n != 48 {
		t.Fatalf("the degree %d", n)
	}
}
