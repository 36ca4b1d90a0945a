package poly_test

import (
	"math/big"
	"math/rand"
	"slices"
	"strings"
	"testing"

	"linkwork/api"
	"linkwork/fraction"
	"linkwork/poly"
)

// num returns the fraction that big.Rat reads from s.
func num(s string) api.Rat {
	b, ok := new(big.Rat).SetString(s)
	if !ok {
		panic(s + " is no fraction")
	}
	return fromBig(b)
}

// list returns the fractions of a text with spaces, that of x^0 first.
func list(s string) api.Poly {
	var p api.Poly
	for _, c := range strings.Fields(s) {
		p = append(p, num(c))
	}
	return p
}

// words returns the words of b, which is not below 0.
func words(b *big.Int) []uint32 {
	var all []uint32
	for rest := new(big.Int).Set(b); rest.Sign() > 0; rest.Rsh(rest, 32) {
		all = append(all, uint32(rest.Uint64()))
	}
	return all
}

// sum returns the number of some words.
func sum(words []uint32) *big.Int {
	b := new(big.Int)
	for _, w := range slices.Backward(words) {
		b.Lsh(b, 32).Or(b, big.NewInt(int64(w)))
	}
	return b
}

// fromBig returns the fraction of b in its valid form.
func fromBig(b *big.Rat) api.Rat {
	if b.Sign() == 0 {
		return api.Rat{}
	}
	return api.Rat{Neg: b.Sign() < 0, Num: words(new(big.Int).Abs(b.Num())), Den: words(b.Denom())}
}

// toBig returns the number of x, which has to be valid.
func toBig(t *testing.T, x api.Rat) *big.Rat {
	t.Helper()
	b := new(big.Rat)
	if len(x.Den) > 0 {
		b.SetFrac(sum(x.Num), sum(x.Den))
	}
	if x.Neg {
		b.Neg(b)
	}
	if !sameRat(x, fromBig(b)) {
		t.Fatalf("not valid: %v", x)
	}
	return b
}

// sameRat reports whether the fields of x and y are equal.
func sameRat(x, y api.Rat) bool {
	return x.Neg == y.Neg && slices.Equal(x.Num, y.Num) && slices.Equal(x.Den, y.Den)
}

// same reports whether p and q are the same lists.
func same(p, q api.Poly) bool {
	return slices.EqualFunc(p, q, sameRat)
}

// show returns the coefficients of p, that of x^0 first; p need not be valid.
func show(p api.Poly) string {
	var texts []string
	for _, c := range p {
		texts = append(texts, fraction.Text(c))
	}
	return "[" + strings.Join(texts, " ") + "]"
}

// expect compares a list with the wanted one.
func expect(t *testing.T, what string, got, want api.Poly) {
	t.Helper()
	if !same(got, want) {
		t.Fatalf("%s: %s, not %s", what, show(got), show(want))
	}
}

// must returns p, if it is an accepted polynomial and there is no error.
func must(t *testing.T, p api.Poly, err error) api.Poly {
	t.Helper()
	if err != nil {
		t.Fatalf("an error: %v", err)
	}
	for _, c := range p {
		toBig(t, c)
	}
	if n := len(p); n > api.MaxDegree+1 || n > 0 && len(p[n-1].Num) == 0 {
		t.Fatalf("not accepted: %s", show(p))
	}
	return p
}

// copyRat returns x in memory of its own.
func copyRat(x api.Rat) api.Rat {
	return api.Rat{Neg: x.Neg, Num: slices.Clone(x.Num), Den: slices.Clone(x.Den)}
}

// copyPoly returns p in memory of its own.
func copyPoly(p api.Poly) api.Poly {
	c := make(api.Poly, 0, len(p))
	for _, x := range p {
		c = append(c, copyRat(x))
	}
	return c
}

// Functions without the error, for arguments that have none.

func add(t *testing.T, p, q api.Poly) api.Poly {
	t.Helper()
	c, err := poly.Add(p, q)
	return must(t, c, err)
}

func sub(t *testing.T, p, q api.Poly) api.Poly {
	t.Helper()
	c, err := poly.Sub(p, q)
	return must(t, c, err)
}

func mul(t *testing.T, p, q api.Poly) api.Poly {
	t.Helper()
	c, err := poly.Mul(p, q)
	return must(t, c, err)
}

func scale(t *testing.T, p api.Poly, c api.Rat) api.Poly {
	t.Helper()
	q, err := poly.Scale(p, c)
	return must(t, q, err)
}

func div(t *testing.T, p, q api.Poly) (c, r api.Poly) {
	t.Helper()
	c, r, err := poly.Div(p, q)
	return must(t, c, err), must(t, r, err)
}

func gcd(t *testing.T, p, q api.Poly) api.Poly {
	t.Helper()
	c, err := poly.Gcd(p, q)
	return must(t, c, err)
}

func derive(t *testing.T, p api.Poly) api.Poly {
	t.Helper()
	c, err := poly.Derive(p)
	return must(t, c, err)
}

func compose(t *testing.T, p, q api.Poly) api.Poly {
	t.Helper()
	c, err := poly.Compose(p, q)
	return must(t, c, err)
}

func free(t *testing.T, p api.Poly) api.Poly {
	t.Helper()
	c, err := poly.Free(p)
	return must(t, c, err)
}

func through(t *testing.T, x, y []api.Rat) api.Poly {
	t.Helper()
	c, err := poly.Through(x, y)
	return must(t, c, err)
}

func eval(t *testing.T, p api.Poly, x api.Rat) api.Rat {
	t.Helper()
	y, err := poly.Eval(p, x)
	if err != nil {
		t.Fatalf("Eval(%s): %v", show(p), err)
	}
	toBig(t, y)
	return y
}

// product returns the product of some polynomials.
func product(t *testing.T, l ...api.Poly) api.Poly {
	t.Helper()
	p := list("1")
	for _, q := range l {
		p = mul(t, p, q)
	}
	return p
}

// drawRat returns a fraction whose parts have at most some bits; often 0, often an integer.
func drawRat(r *rand.Rand, bits int) api.Rat {
	if r.Intn(5) == 0 {
		return api.Rat{}
	}
	bound := new(big.Int).Lsh(big.NewInt(1), uint(1+r.Intn(bits)))
	n, d := new(big.Int).Rand(r, bound), big.NewInt(1)
	if r.Intn(2) > 0 {
		d.Add(d, new(big.Int).Rand(r, bound))
	}
	if r.Intn(2) == 0 {
		n.Neg(n)
	}
	return fromBig(new(big.Rat).SetFrac(n, d))
}

// drawPoly returns a polynomial of at most some degree, sometimes 0.
func drawPoly(r *rand.Rand, degree, bits int) api.Poly {
	p := make(api.Poly, r.Intn(degree+2))
	for i := range p {
		p[i] = drawRat(r, bits)
	}
	for len(p) > 0 && len(p[len(p)-1].Num) == 0 {
		p = p[:len(p)-1]
	}
	return p
}

// edges returns polynomials of low degrees with small, long and sparse coefficients.
func edges() []api.Poly {
	texts := []string{
		"", "1", "-1", "2/3", "-4294967296", "340282366920938463463374607431768211457/3",
		"0 1", "0 -1", "-1 1", "1 1", "1 2", "-3/2 -1/2", "4294967297/2 1/4294967296",
		"0 0 1", "-2 0 1", "2 -3 1", "1 2 1", "4 0 -1", "1 1 1", "1/2 1/3 1/5", "6 10 15", "1/4 1 1",
		"0 -1 0 1", "4 -6 0 2", "0 0 0 -7/3", "-1 0 0 8", "1 3 3 1",
		"1 0 2 0 1", "4 0 -4 0 1", "-1 0 0 0 1", "2 -1 -3 1 1", "0 0 0 0 1/18446744073709551617",
	}
	var all []api.Poly
	for _, s := range texts {
		all = append(all, list(s))
	}
	return all
}

// pairs returns pairs of polynomials whose products have a degree of at most MaxDegree: all pairs of
// edges, and drawn ones, many of them with common divisors.
func pairs(t *testing.T, r *rand.Rand) [][2]api.Poly {
	var all [][2]api.Poly
	for _, p := range edges() {
		for _, q := range edges() {
			all = append(all, [2]api.Poly{p, q})
		}
	}
	for i := range 600 {
		bits := 2 + i%70
		p, q, c := drawPoly(r, 1+i%13, bits), drawPoly(r, 1+i%11, bits), drawPoly(r, 1+i%4, bits)
		all = append(all, [2]api.Poly{p, q}, [2]api.Poly{mul(t, p, c), mul(t, q, c)}, [2]api.Poly{mul(t, p, c), c})
	}
	return append(all,
		[2]api.Poly{power(t, "1 1", 32), power(t, "-1/3 2", 32)},
		[2]api.Poly{power(t, "1 1", 32), power(t, "1 0 1", 16)},
	)
}

// power returns a polynomial to the power n.
func power(t *testing.T, s string, n int) api.Poly {
	t.Helper()
	p := list("1")
	for range n {
		p = mul(t, p, list(s))
	}
	return p
}

// badRats returns fractions that are not valid.
func badRats() []api.Rat {
	return []api.Rat{
		{Neg: true},
		{Num: []uint32{1}},
		{Den: []uint32{1}},
		{Num: []uint32{0}, Den: []uint32{1}},
		{Num: []uint32{1, 0}, Den: []uint32{1}},
		{Num: []uint32{1}, Den: []uint32{0}},
		{Num: []uint32{6}, Den: []uint32{4}},
		{Neg: true, Num: []uint32{3}, Den: []uint32{3}},
	}
}

// longest returns a polynomial of the degree n, with many zeros.
func longest(n int) api.Poly {
	return append(make(api.Poly, n), num("-5/3"))
}
