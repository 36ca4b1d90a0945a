package sturm_test

import (
	"math/big"
	"math/rand"
	"slices"
	"strings"
	"testing"

	"linkwork/api"
	"linkwork/fraction"
	"linkwork/interval"
	"linkwork/poly"
	"linkwork/sturm"
)

// num returns the fraction that big.Rat reads from s.
func num(s string) api.Rat {
	b, ok := new(big.Rat).SetString(s)
	if !ok {
		panic(s + " is no fraction")
	}
	return fromBig(b)
}

// list returns the fractions of a text with spaces, that of x^0 first.
func list(s string) api.Poly {
	var p api.Poly
	for _, c := range strings.Fields(s) {
		p = append(p, num(c))
	}
	return p
}

// span returns the interval of a text such as "-1..1/2".
func span(s string) api.Range {
	lo, hi, _ := strings.Cut(s, "..")
	return api.Range{Lo: num(lo), Hi: num(hi)}
}

// words returns the words of b, which is not below 0.
func words(b *big.Int) []uint32 {
	var all []uint32
	for rest := new(big.Int).Set(b); rest.Sign() > 0; rest.Rsh(rest, 32) {
		all = append(all, uint32(rest.Uint64()))
	}
	return all
}

// sum returns the number of some words.
func sum(words []uint32) *big.Int {
	b := new(big.Int)
	for _, w := range slices.Backward(words) {
		b.Lsh(b, 32).Or(b, big.NewInt(int64(w)))
	}
	return b
}

// fromBig returns the fraction of b in its valid form.
func fromBig(b *big.Rat) api.Rat {
	if b.Sign() == 0 {
		return api.Rat{}
	}
	return api.Rat{Neg: b.Sign() < 0, Num: words(new(big.Int).Abs(b.Num())), Den: words(b.Denom())}
}

// toBig returns the number of x, which has to be valid.
func toBig(t *testing.T, x api.Rat) *big.Rat {
	t.Helper()
	b := new(big.Rat)
	if len(x.Den) > 0 {
		b.SetFrac(sum(x.Num), sum(x.Den))
	}
	if x.Neg {
		b.Neg(b)
	}
	if !sameRat(x, fromBig(b)) {
		t.Fatalf("not valid: %v", x)
	}
	return b
}

// sameRat reports whether the fields of x and y are equal.
func sameRat(x, y api.Rat) bool {
	return x.Neg == y.Neg && slices.Equal(x.Num, y.Num) && slices.Equal(x.Den, y.Den)
}

// samePoly reports whether p and q are the same lists.
func samePoly(p, q api.Poly) bool {
	return slices.EqualFunc(p, q, sameRat)
}

// sameRange reports whether the ends of a and b are equal.
func sameRange(a, b api.Range) bool {
	return sameRat(a.Lo, b.Lo) && sameRat(a.Hi, b.Hi)
}

// show returns the coefficients of p, that of x^0 first; p need not be valid.
func show(p api.Poly) string {
	var texts []string
	for _, c := range p {
		texts = append(texts, fraction.Text(c))
	}
	return "[" + strings.Join(texts, " ") + "]"
}

// showAll returns the texts of some intervals.
func showAll(l []api.Range) string {
	var texts []string
	for _, r := range l {
		texts = append(texts, interval.Text(r))
	}
	return "[" + strings.Join(texts, " ") + "]"
}

// copyRat returns x in memory of its own.
func copyRat(x api.Rat) api.Rat {
	return api.Rat{Neg: x.Neg, Num: slices.Clone(x.Num), Den: slices.Clone(x.Den)}
}

// copyPoly returns p in memory of its own.
func copyPoly(p api.Poly) api.Poly {
	c := make(api.Poly, 0, len(p))
	for _, x := range p {
		c = append(c, copyRat(x))
	}
	return c
}

// Functions without the error, for arguments that have none.

func chain(t *testing.T, p api.Poly) []api.Poly {
	t.Helper()
	l, err := sturm.Chain(p)
	if err != nil {
		t.Fatalf("Chain(%s): %v", show(p), err)
	}
	return l
}

func count(t *testing.T, p api.Poly, lo, hi api.Rat) int {
	t.Helper()
	n, err := sturm.Count(p, lo, hi)
	if err != nil {
		t.Fatalf("Count(%s, %s, %s): %v", show(p), fraction.Text(lo), fraction.Text(hi), err)
	}
	return n
}

func all(t *testing.T, p api.Poly) int {
	t.Helper()
	n, err := sturm.All(p)
	if err != nil {
		t.Fatalf("All(%s): %v", show(p), err)
	}
	return n
}

func bound(t *testing.T, p api.Poly) api.Rat {
	t.Helper()
	b, err := sturm.Bound(p)
	if err != nil {
		t.Fatalf("Bound(%s): %v", show(p), err)
	}
	toBig(t, b)
	return b
}

func isolating(t *testing.T, p api.Poly, r api.Range) bool {
	t.Helper()
	is, err := sturm.Isolating(p, r)
	if err != nil {
		t.Fatalf("Isolating(%s, %s): %v", show(p), interval.Text(r), err)
	}
	return is
}

func isolate(t *testing.T, p api.Poly) []api.Range {
	t.Helper()
	l, err := sturm.Isolate(p)
	if err != nil {
		t.Fatalf("Isolate(%s): %v", show(p), err)
	}
	for _, r := range l {
		toBig(t, r.Lo)
		toBig(t, r.Hi)
	}
	return l
}

func refine(t *testing.T, p api.Poly, r api.Range, bits int) api.Range {
	t.Helper()
	x, err := sturm.Refine(p, r, bits)
	if err != nil {
		t.Fatalf("Refine(%s, %s, %d): %v", show(p), interval.Text(r), bits, err)
	}
	toBig(t, x.Lo)
	toBig(t, x.Hi)
	return x
}

// mul returns the product of some polynomials.
func mul(t *testing.T, l ...api.Poly) api.Poly {
	t.Helper()
	p := list("1")
	for _, q := range l {
		product, err := poly.Mul(p, q)
		if err != nil {
			t.Fatalf("Mul: %v", err)
		}
		p = product
	}
	return p
}

// power returns p to the power n.
func power(t *testing.T, p api.Poly, n int) api.Poly {
	t.Helper()
	return mul(t, slices.Repeat([]api.Poly{p}, n)...)
}

// linear returns x - a.
func linear(a api.Rat) api.Poly {
	return api.Poly{fraction.Neg(a), num("1")}
}

// drawRat returns a fraction whose parts have at most some bits; often 0, often an integer.
func drawRat(r *rand.Rand, bits int) api.Rat {
	if r.Intn(5) == 0 {
		return api.Rat{}
	}
	bound := new(big.Int).Lsh(big.NewInt(1), uint(1+r.Intn(bits)))
	n, d := new(big.Int).Rand(r, bound), big.NewInt(1)
	if r.Intn(2) > 0 {
		d.Add(d, new(big.Int).Rand(r, bound))
	}
	if r.Intn(2) == 0 {
		n.Neg(n)
	}
	return fromBig(new(big.Rat).SetFrac(n, d))
}

// drawPoly returns a polynomial of at most some degree that is not 0.
func drawPoly(r *rand.Rand, degree, bits int) api.Poly {
	p := make(api.Poly, r.Intn(degree+1)+1)
	for i := range p {
		p[i] = drawRat(r, bits)
	}
	for len(p) > 0 && len(p[len(p)-1].Num) == 0 {
		p = p[:len(p)-1]
	}
	if len(p) == 0 {
		return list("-2/3")
	}
	return p
}

// edges returns polynomials without roots, with roots on the grid of Isolate and beside it, with
// multiple roots, with roots close to one another, and with roots that are nearly real.
func edges() []api.Poly {
	texts := []string{
		"1", "-1", "5", "-2/3", "340282366920938463463374607431768211457/3",
		"0 1", "0 -7/3", "-1 1", "1 1", "3 2", "-2 1", "2 1", "-4 1", "4 1", "-1000000 1", "1 1000000", "-3/2 -1/2",
		"0 0 1", "-2 0 1", "1 0 1", "2 -3 1", "1 -2 1", "1 2 1", "9 -6 1", "-1/9 0 1", "0 -1 1", "0 1 1", "0 -2 1", "1/4 1 1",
		"0 0 0 -7/3", "0 -1 0 1", "0 1 0 1", "-1 0 0 8", "1 3 3 1", "4 -6 0 2", "0 -4 0 1", "0 2 -3 1", "0 2 3 1",
		"-1/3 1 -1/5 3", "-6 11 -6 1", "0 0 -1 1", "0 0 -3 0 1", "4 0 -4 0 1", "1 0 2 0 1", "-1 0 0 0 1", "1 0 -10 0 1",
		"2 -1 -3 1 1", "0 0 0 0 1/18446744073709551617", "-18446744073709551617 0 0 1", "0 -18446744073709551617 0 1",
		"-1/18446744073709551617 0 0 0 1", "0 -1/18446744073709551617 0 1", "0 4 0 -5 0 1", "1 1 1 1 1 1 1",
		// (x - 1)^2 - 10^-12 and (x - 1)^2 + 10^-12, (3 x - 1)^2 - 10^-20 and (3 x - 1)^2 + 10^-20
		"999999999999/1000000000000 -2 1", "1000000000001/1000000000000 -2 1",
		"99999999999999999999/100000000000000000000 -6 9", "100000000000000000001/100000000000000000000 -6 9",
		// The roots are farther from 0 than those of the terms two by two.
		"-31 -7 -1 1", "-31 7 1 1", "-127 -31 -7 -1 1",
		// x^7 - 2 (11 x - 1)^2
		"-2 44 -242 0 0 0 0 1",
	}
	var all []api.Poly
	for _, s := range texts {
		all = append(all, list(s))
	}
	return all
}

// cases returns edges and drawn polynomials, many of them with multiple roots or with rational ones.
func cases(t *testing.T, r *rand.Rand, drawn int) []api.Poly {
	all := edges()
	for i := range drawn {
		bits := 1 + i%20
		p := drawPoly(r, 1+i%9, bits)
		q := p
		for range i % 4 {
			q = mul(t, q, linear(drawRat(r, bits)))
		}
		a := drawRat(r, 3)
		all = append(all, p, q, mul(t, q, linear(a), linear(a)), mul(t, p, p, linear(fraction.Of(i%5-2))))
	}
	return all
}

// badRats returns fractions that are not valid.
func badRats() []api.Rat {
	return []api.Rat{
		{Neg: true},
		{Num: []uint32{1}},
		{Den: []uint32{1}},
		{Num: []uint32{0}, Den: []uint32{1}},
		{Num: []uint32{1, 0}, Den: []uint32{1}},
		{Num: []uint32{1}, Den: []uint32{0}},
		{Num: []uint32{6}, Den: []uint32{4}},
		{Neg: true, Num: []uint32{3}, Den: []uint32{3}},
	}
}

// badRanges returns intervals that are not valid.
func badRanges() []api.Range {
	all := []api.Range{span("1..0"), span("1/2..1/3"), span("0..-1")}
	for _, bad := range badRats() {
		all = append(all, api.Range{Lo: bad, Hi: num("5")}, api.Range{Lo: num("-5"), Hi: bad}, api.Range{Lo: bad, Hi: bad})
	}
	return all
}
