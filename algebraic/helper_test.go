package algebraic_test

import (
	"math/big"
	"math/rand"
	"slices"
	"strings"
	"testing"

	"linkwork/algebraic"
	"linkwork/api"
	"linkwork/fraction"
	"linkwork/interval"
	"linkwork/poly"
	"linkwork/sturm"
)

// rat returns the fraction of a text.
func rat(s string) api.Rat {
	x, err := fraction.Parse(s)
	if err != nil {
		panic(s + " is no fraction")
	}
	return x
}

// list returns the fractions of a text with spaces, as a polynomial or as a number of a tower.
func list[L ~[]api.Rat](s string) L {
	var l L
	for _, c := range strings.Fields(s) {
		l = append(l, rat(c))
	}
	return l
}

// span returns the interval of a text such as "-1..1/2".
func span(s string) api.Range {
	lo, hi, _ := strings.Cut(s, "..")
	return api.Range{Lo: rat(lo), Hi: rat(hi)}
}

// number returns the number of a polynomial and an interval.
func number(p, r string) api.Alg {
	return api.Alg{P: list[api.Poly](p), R: span(r)}
}

// show returns a polynomial and an interval, which need not be valid.
func show(a api.Alg) string {
	return showList(a.P) + " " + interval.Text(a.R)
}

// showList returns the fractions of a list.
func showList(l []api.Rat) string {
	var texts []string
	for _, c := range l {
		texts = append(texts, fraction.Text(c))
	}
	return "[" + strings.Join(texts, " ") + "]"
}

// sameRat reports whether the fields of x and y are equal.
func sameRat(x, y api.Rat) bool {
	return x.Neg == y.Neg && slices.Equal(x.Num, y.Num) && slices.Equal(x.Den, y.Den)
}

// sameList reports whether a and b are the same lists.
func sameList(a, b []api.Rat) bool {
	return slices.EqualFunc(a, b, sameRat)
}

// sameRange reports whether the ends of a and b are equal.
func sameRange(a, b api.Range) bool {
	return sameRat(a.Lo, b.Lo) && sameRat(a.Hi, b.Hi)
}

// copyList returns l in memory of its own.
func copyList(l []api.Rat) []api.Rat {
	var c []api.Rat
	for _, x := range l {
		c = append(c, api.Rat{Neg: x.Neg, Num: slices.Clone(x.Num), Den: slices.Clone(x.Den)})
	}
	return c
}

// numbers returns all fractions of a.
func numbers(a api.Alg) []api.Rat {
	return append(slices.Clone(a.P), a.R.Lo, a.R.Hi)
}

// copyAlg returns a in memory of its own.
func copyAlg(a api.Alg) api.Alg {
	l := copyList(numbers(a))
	n := len(a.P)
	return api.Alg{P: l[:n:n], R: api.Range{Lo: l[n], Hi: l[n+1]}}
}

// unit returns 2^-k.
func unit(k int) api.Rat {
	x := rat("1")
	for range k {
		x = fraction.Mul(x, rat("1/2"))
	}
	return x
}

// Functions without the error, for arguments that have none.

func roots(t *testing.T, p api.Poly) []api.Alg {
	t.Helper()
	l, err := algebraic.Roots(p)
	if err != nil {
		t.Fatalf("Roots(%s): %v", showList(p), err)
	}
	return l
}

func cmp(t *testing.T, a, b api.Alg) int {
	t.Helper()
	c, err := algebraic.Cmp(a, b)
	if err != nil {
		t.Fatalf("Cmp(%s, %s): %v", show(a), show(b), err)
	}
	return c
}

func cmpRat(t *testing.T, a api.Alg, x api.Rat) int {
	t.Helper()
	c, err := algebraic.CmpRat(a, x)
	if err != nil {
		t.Fatalf("CmpRat(%s, %s): %v", show(a), fraction.Text(x), err)
	}
	return c
}

func signAt(t *testing.T, p api.Poly, a api.Alg) int {
	t.Helper()
	s, err := algebraic.SignAt(p, a)
	if err != nil {
		t.Fatalf("SignAt(%s, %s): %v", showList(p), show(a), err)
	}
	return s
}

func near(t *testing.T, a api.Alg, bits int) api.Range {
	t.Helper()
	r, err := algebraic.Near(a, bits)
	if err != nil || !interval.Valid(r) {
		t.Fatalf("Near(%s, %d): %v, %v", show(a), bits, r, err)
	}
	return r
}

func between(t *testing.T, a, b api.Alg) api.Rat {
	t.Helper()
	x, err := algebraic.Between(a, b)
	if err != nil || !fraction.Valid(x) {
		t.Fatalf("Between(%s, %s): %v, %v", show(a), show(b), x, err)
	}
	return x
}

// mul returns the product of some polynomials.
func mul(t *testing.T, l ...api.Poly) api.Poly {
	t.Helper()
	p := list[api.Poly]("1")
	for _, q := range l {
		product, err := poly.Mul(p, q)
		if err != nil {
			t.Fatalf("Mul: %v", err)
		}
		p = product
	}
	return p
}

// linear returns the polynomial with the root x.
func linear(x api.Rat) api.Poly {
	return api.Poly{fraction.Neg(x), rat("1")}
}

// drawRat returns a fraction whose parts have at most some bits; often 0, often an integer.
func drawRat(r *rand.Rand, bits int) api.Rat {
	if r.Intn(5) == 0 {
		return api.Rat{}
	}
	n, d := r.Intn(2<<bits)-1<<bits, 1
	if r.Intn(2) > 0 {
		d += r.Intn(1 << bits)
	}
	x, _ := fraction.Make(n, d)
	return x
}

// drawPoly returns a polynomial of at most some degree that is not 0.
func drawPoly(r *rand.Rand, degree, bits int) api.Poly {
	l := make([]api.Rat, r.Intn(degree+1)+1)
	for i := range l {
		l[i] = drawRat(r, bits)
	}
	if p := poly.Trim(l); len(p) > 0 {
		return p
	}
	return list[api.Poly]("-2/3")
}

// edges returns polynomials with roots on the grid of Isolate and beside it, with rational roots, with
// the same roots as others, with roots close to one another, and with roots that are nearly real.
func edges() []api.Poly {
	texts := []string{
		"0 1", "-1 1", "1 -1", "-3 2", "0 -7/3", "1000000007 -5", "-1 18446744073709551616",
		"-2 0 1", "2 0 -1", "-2 0 0 1", "0 -2 0 1", "-3 0 1", "6 0 -5 0 1", "-6 11 -6 1", "0 -1 0 1", "0 1 -1/9",
		"-4 0 1", "-9/4 0 1", "1 0 -10 0 1", "-1 -1 1", "1 -1 -1 0 0 1", "-18446744073709551617 0 0 1",
		"-1/18446744073709551617 0 0 0 1", "1 0 1", "7",
		// (x - 1)^2 - 10^-12 and (x - 1)^2 + 10^-12, (3 x - 1)^2 - 10^-20
		"999999999999/1000000000000 -2 1", "1000000000001/1000000000000 -2 1",
		"99999999999999999999/100000000000000000000 -6 9",
		// The root of 2 and roots close to it.
		"-20000000000000000000001/10000000000000000000000 0 1", "-665857/470832 1", "-131836323/93222358 1",
	}
	var all []api.Poly
	for _, s := range texts {
		all = append(all, list[api.Poly](s))
	}
	return all
}

// drawn returns numbers of edges and of drawn polynomials. Many are equal, but with other polynomials
// or other intervals.
func drawn(t *testing.T, r *rand.Rand, n int) []api.Alg {
	t.Helper()
	all := edges()
	for i := range n {
		p := drawPoly(r, 1+i%7, 1+i%12)
		all = append(all, mul(t, p, linear(drawRat(r, 3))), mul(t, all[r.Intn(len(all))], drawPoly(r, 2, 3)))
	}
	var found []api.Alg
	for _, p := range all {
		for _, a := range roots(t, p) {
			found = append(found, a, other(t, r, a))
		}
	}
	return found
}

// other returns the same number as a with another interval, and a multiple of the polynomial.
func other(t *testing.T, r *rand.Rand, a api.Alg) api.Alg {
	t.Helper()
	p, err := poly.Scale(a.P, rat([]string{"-1", "2/3", "-1000000007"}[r.Intn(3)]))
	if err != nil {
		t.Fatal(err)
	}
	bits := r.Intn(20)
	a.R, err = sturm.Refine(a.P, a.R, bits)
	if err != nil {
		t.Fatal(err)
	}
	// An end that is on no grid, if the root lets it be moved there.
	wide := api.Range{Lo: fraction.Sub(a.R.Lo, rat("1/30000007")), Hi: a.R.Hi}
	if is, _ := sturm.Isolating(p, wide); is {
		a.R = wide
	}
	return api.Alg{P: p, R: a.R}
}

// toBig returns the number of x.
func toBig(x api.Rat) *big.Rat {
	b, _ := new(big.Rat).SetString(fraction.Text(x))
	return b
}

// badRats returns fractions that are not valid.
func badRats() []api.Rat {
	return []api.Rat{
		{Neg: true},
		{Num: []uint32{1}},
		{Den: []uint32{1}},
		{Num: []uint32{0}, Den: []uint32{1}},
		{Num: []uint32{1, 0}, Den: []uint32{1}},
		{Num: []uint32{6}, Den: []uint32{4}},
	}
}
