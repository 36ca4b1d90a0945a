package resultant_test

import (
	"math/big"
	"math/rand"
	"slices"
	"strings"
	"testing"

	"linkwork/api"
	"linkwork/fraction"
	"linkwork/poly"
	"linkwork/resultant"
)

// rat returns the fraction of a text.
func rat(s string) api.Rat {
	x, err := fraction.Parse(s)
	if err != nil {
		panic(s + " is no fraction")
	}
	return x
}

// list returns the fractions of a text with spaces, that of x^0 first.
func list(s string) api.Poly {
	var p api.Poly
	for _, c := range strings.Fields(s) {
		p = append(p, rat(c))
	}
	return p
}

// show returns the coefficients of p, that of x^0 first; p need not be valid.
func show(p []api.Rat) string {
	var texts []string
	for _, c := range p {
		texts = append(texts, fraction.Text(c))
	}
	return "[" + strings.Join(texts, " ") + "]"
}

// sameRat reports whether the fields of x and y are equal.
func sameRat(x, y api.Rat) bool {
	return x.Neg == y.Neg && slices.Equal(x.Num, y.Num) && slices.Equal(x.Den, y.Den)
}

// same reports whether a and b are the same lists.
func same(a, b []api.Rat) bool {
	return slices.EqualFunc(a, b, sameRat)
}

// expectRat compares a fraction with the wanted one.
func expectRat(t *testing.T, what string, got, want api.Rat) {
	t.Helper()
	if !sameRat(got, want) {
		t.Fatalf("%s: %s, not %s", what, fraction.Text(got), fraction.Text(want))
	}
}

// expect compares a list with the wanted one.
func expect(t *testing.T, what string, got, want api.Poly) {
	t.Helper()
	if !same(got, want) {
		t.Fatalf("%s: %s, not %s", what, show(got), show(want))
	}
}

// must returns a value that came without an error.
func must[V any](t *testing.T) func(v V, err error) V {
	return func(v V, err error) V {
		t.Helper()
		if err != nil {
			t.Fatalf("an error: %v", err)
		}
		return v
	}
}

// Functions without the error, for arguments that have none.

func mul(t *testing.T, l ...api.Poly) api.Poly {
	t.Helper()
	p := list("1")
	for _, q := range l {
		p = must[api.Poly](t)(poly.Mul(p, q))
	}
	return p
}

func eval(t *testing.T, p api.Poly, x api.Rat) api.Rat {
	t.Helper()
	return must[api.Rat](t)(poly.Eval(p, x))
}

// power returns a fraction to the power n.
func power(t *testing.T, x api.Rat, n int) api.Rat {
	t.Helper()
	return must[api.Rat](t)(fraction.Power(x, n))
}

// between returns the resultant of p and q, which has to be valid.
func between(t *testing.T, p, q api.Poly) api.Rat {
	t.Helper()
	r, err := resultant.Resultant(p, q)
	if err != nil || !fraction.Valid(r) {
		t.Fatalf("Resultant(%s, %s): %v, %v", show(p), show(q), r, err)
	}
	return r
}

// discriminant returns that of p, which has to be valid.
func discriminant(t *testing.T, p api.Poly) api.Rat {
	t.Helper()
	d, err := resultant.Discriminant(p)
	if err != nil || !fraction.Valid(d) {
		t.Fatalf("Discriminant(%s): %v, %v", show(p), d, err)
	}
	return d
}

// bezout returns polynomials without errors.
func bezout(t *testing.T, p, q api.Poly) (u, v, g api.Poly) {
	t.Helper()
	u, v, g, err := resultant.Bezout(p, q)
	if err != nil {
		t.Fatalf("Bezout(%s, %s): %v", show(p), show(q), err)
	}
	for _, l := range []api.Poly{u, v, g} {
		if err := poly.Check(l); err != nil {
			t.Fatalf("Bezout(%s, %s): %s: %v", show(p), show(q), show(l), err)
		}
	}
	return u, v, g
}

// accepts returns what Accepts reports.
func accepts(t *testing.T, p, q, u, v, g api.Poly) bool {
	t.Helper()
	return must[bool](t)(resultant.Accepts(p, q, u, v, g))
}

// linear returns the polynomial x - a.
func linear(a api.Rat) api.Poly {
	return api.Poly{fraction.Neg(a), rat("1")}
}

// drawRat returns a fraction whose parts have at most some bits; often 0, often an integer.
func drawRat(r *rand.Rand, bits int) api.Rat {
	if r.Intn(5) == 0 {
		return api.Rat{}
	}
	bound := new(big.Int).Lsh(big.NewInt(1), uint(1+r.Intn(bits)))
	n, d := new(big.Int).Rand(r, bound), big.NewInt(1)
	if r.Intn(2) > 0 {
		d.Add(d, new(big.Int).Rand(r, bound))
	}
	if r.Intn(2) == 0 {
		n.Neg(n)
	}
	return fromBig(new(big.Rat).SetFrac(n, d))
}

// drawPoly returns a polynomial of at most some degree, sometimes 0.
func drawPoly(r *rand.Rand, degree, bits int) api.Poly {
	l := make([]api.Rat, r.Intn(degree+2))
	for i := range l {
		l[i] = drawRat(r, bits)
	}
	return poly.Trim(l)
}

// drawFull returns a polynomial of at most some degree, not 0.
func drawFull(r *rand.Rand, degree, bits int) api.Poly {
	if p := drawPoly(r, degree, bits); len(p) > 0 {
		return p
	}
	return list("-2/3")
}

// exact returns a polynomial of the degree n.
func exact(r *rand.Rand, n, bits int) api.Poly {
	p := make(api.Poly, n+1)
	for i := range p {
		p[i] = drawRat(r, bits)
	}
	if len(p[n].Num) == 0 {
		p[n] = rat("-3/7")
	}
	return p
}

// longest returns a polynomial of the degree n, with many zeros.
func longest(n int) api.Poly {
	return append(make(api.Poly, n), rat("-5/3"))
}

// edges returns polynomials of low degrees, not 0, with small, long and sparse coefficients. Some last
// coefficients, and some resultants, are divided by the greatest primes below 2^31.
func edges() []api.Poly {
	texts := []string{
		"1", "-1", "2/3", "-4294967296", "340282366920938463463374607431768211457/3",
		"0 1", "0 -1", "-1 1", "1 1", "1 2", "-3/2 -1/2", "4294967297/2 1/4294967296",
		"2147483646 1", "-2147483648 1", "-2147483630 1", "5 2147483647", "-3 7 2147483629", "1 4611685975477714963",
		"0 0 1", "-2 0 1", "2 -3 1", "1 2 1", "4 0 -1", "1 1 1", "1/2 1/3 1/5", "6 10 15", "1/4 1 1",
		"0 -1 0 1", "4 -6 0 2", "0 0 0 -7/3", "-1 0 0 8", "1 3 3 1", "1 -1 0 2147483647/2",
		"1 0 2 0 1", "4 0 -4 0 1", "-1 0 0 0 1", "2 -1 -3 1 1", "0 0 0 0 1/18446744073709551617",
		"1 2 3 4 5 6 7", "-7 0 0 0 0 0 0 1", "1 0 0 -2147483647 0 0 0 0 3",
	}
	var all []api.Poly
	for _, s := range texts {
		all = append(all, list(s))
	}
	return all
}

// pairs returns pairs of polynomials that are not 0 and have low degrees: all pairs of edges, and drawn
// ones, many of them with common divisors.
func pairs(t *testing.T, r *rand.Rand) [][2]api.Poly {
	t.Helper()
	var all [][2]api.Poly
	for _, p := range edges() {
		for _, q := range edges() {
			all = append(all, [2]api.Poly{p, q})
		}
	}
	for i := range 200 {
		bits := 2 + i%70
		p, q, c := drawFull(r, 1+i%8, bits), drawFull(r, 1+i%7, bits), drawFull(r, 1+i%4, bits)
		all = append(all, [2]api.Poly{p, q}, [2]api.Poly{mul(t, p, c), mul(t, q, c)}, [2]api.Poly{mul(t, p, c), c})
	}
	return all
}

// badRats returns fractions that are not valid.
func badRats() []api.Rat {
	return []api.Rat{
		{Neg: true},
		{Num: []uint32{1}},
		{Den: []uint32{1}},
		{Num: []uint32{0}, Den: []uint32{1}},
		{Num: []uint32{1, 0}, Den: []uint32{1}},
		{Num: []uint32{1}, Den: []uint32{0}},
		{Num: []uint32{6}, Den: []uint32{4}},
		{Neg: true, Num: []uint32{3}, Den: []uint32{3}},
	}
}
