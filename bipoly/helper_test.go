package bipoly_test

import (
	"math/big"
	"math/rand"
	"slices"
	"strconv"
	"strings"
	"testing"

	"linkwork/api"
	"linkwork/bipoly"
	"linkwork/fraction"
	"linkwork/poly"
	"linkwork/tower"
)

// rat returns the fraction of a text.
func rat(s string) api.Rat {
	x, err := fraction.Parse(s)
	if err != nil {
		panic(s + " is no fraction")
	}
	return x
}

// list returns the fractions of a text with spaces.
func list(s string) []api.Rat {
	var l []api.Rat
	for _, c := range strings.Fields(s) {
		l = append(l, rat(c))
	}
	return l
}

// term returns the term c x^i y^j.
func term(c string, i, j int) api.Term {
	return api.Term{I: i, J: j, C: rat(c)}
}

// of returns the terms of a text, in which each one is given by its coefficient and its exponents, with
// commas between the terms.
func of(s string) api.BiPoly {
	var p api.BiPoly
	for _, part := range strings.Split(s, ",") {
		if fields := strings.Fields(part); len(fields) == 3 {
			i, _ := strconv.Atoi(fields[1])
			j, _ := strconv.Atoi(fields[2])
			p = append(p, term(fields[0], i, j))
		}
	}
	return p
}

// show returns the text from which of makes p.
func show(p api.BiPoly) string {
	var parts []string
	for _, t := range p {
		parts = append(parts, fraction.Text(t.C)+" "+strconv.Itoa(t.I)+" "+strconv.Itoa(t.J))
	}
	return strings.Join(parts, ", ")
}

// showList returns the texts of some fractions.
func showList(l []api.Rat) string {
	var texts []string
	for _, c := range l {
		texts = append(texts, fraction.Text(c))
	}
	return "[" + strings.Join(texts, " ") + "]"
}

// sameRat reports whether the fields of x and y are equal.
func sameRat(x, y api.Rat) bool {
	return x.Neg == y.Neg && slices.Equal(x.Num, y.Num) && slices.Equal(x.Den, y.Den)
}

// sameList reports whether a and b are the same lists.
func sameList(a, b []api.Rat) bool {
	return slices.EqualFunc(a, b, sameRat)
}

// same reports whether p and q have the same terms.
func same(p, q api.BiPoly) bool {
	return slices.EqualFunc(p, q, func(s, t api.Term) bool { return s.I == t.I && s.J == t.J && sameRat(s.C, t.C) })
}

// expect compares a polynomial with the wanted one.
func expect(t *testing.T, what string, got, want api.BiPoly) {
	t.Helper()
	if !same(got, want) {
		t.Fatalf("%s: %s, not %s", what, show(got), show(want))
	}
}

// expectList compares a list with the wanted one.
func expectList(t *testing.T, what string, got, want []api.Rat) {
	t.Helper()
	if !sameList(got, want) {
		t.Fatalf("%s: %s, not %s", what, showList(got), showList(want))
	}
}

// expectRat compares a fraction with the wanted one.
func expectRat(t *testing.T, what string, got, want api.Rat) {
	t.Helper()
	expectList(t, what, []api.Rat{got}, []api.Rat{want})
}

// must returns a value that came without an error.
func must[V any](t *testing.T) func(v V, err error) V {
	return func(v V, err error) V {
		t.Helper()
		if err != nil {
			t.Fatalf("an error: %v", err)
		}
		return v
	}
}

// accepted returns p, which came without an error and has to be accepted.
func accepted(t *testing.T, p api.BiPoly, err error) api.BiPoly {
	t.Helper()
	if err != nil {
		t.Fatalf("an error: %v", err)
	}
	if err := bipoly.Check(p); err != nil {
		t.Fatalf("not accepted: %s: %v", show(p), err)
	}
	return p
}

// Functions without the error, for arguments that have none.

func add(t *testing.T, p, q api.BiPoly) api.BiPoly {
	t.Helper()
	c, err := bipoly.Add(p, q)
	return accepted(t, c, err)
}

func sub(t *testing.T, p, q api.BiPoly) api.BiPoly {
	t.Helper()
	c, err := bipoly.Sub(p, q)
	return accepted(t, c, err)
}

func mul(t *testing.T, p, q api.BiPoly) api.BiPoly {
	t.Helper()
	c, err := bipoly.Mul(p, q)
	return accepted(t, c, err)
}

func scale(t *testing.T, p api.BiPoly, x api.Rat) api.BiPoly {
	t.Helper()
	c, err := bipoly.Scale(p, x)
	return accepted(t, c, err)
}

func partial(t *testing.T, p api.BiPoly, byY bool) api.BiPoly {
	t.Helper()
	c, err := bipoly.Partial(p, byY)
	return accepted(t, c, err)
}

func top(t *testing.T, p api.BiPoly) api.BiPoly {
	t.Helper()
	c, err := bipoly.Top(p)
	return accepted(t, c, err)
}

func build(t *testing.T, l []api.Term) api.BiPoly {
	t.Helper()
	c, err := bipoly.Make(l)
	return accepted(t, c, err)
}

func degree(t *testing.T, p api.BiPoly) int {
	t.Helper()
	return must[int](t)(bipoly.Degree(p))
}

func isSame(t *testing.T, p, q api.BiPoly) bool {
	t.Helper()
	return must[bool](t)(bipoly.Same(p, q))
}

func eval(t *testing.T, p api.BiPoly, x, y api.Rat) api.Rat {
	t.Helper()
	v := must[api.Rat](t)(bipoly.Eval(p, x, y))
	if !fraction.Valid(v) {
		t.Fatalf("Eval(%s): %v", show(p), v)
	}
	return v
}

func fix(t *testing.T, p api.BiPoly, y bool, c api.Rat) api.Poly {
	t.Helper()
	l := must[api.Poly](t)(bipoly.Fix(p, y, c))
	if err := poly.Check(l); err != nil {
		t.Fatalf("Fix(%s): %s: %v", show(p), showList(l), err)
	}
	return l
}

func at(t *testing.T, u api.Tower, p api.BiPoly, x, y api.Num) api.Num {
	t.Helper()
	v := must[api.Num](t)(bipoly.At(u, p, x, y))
	if !tower.Valid(u, v) || len(tower.Short(v)) != len(v) {
		t.Fatalf("At(%s): %s", show(p), showList(v))
	}
	return v
}

func eliminate(t *testing.T, p, q api.BiPoly) api.Poly {
	t.Helper()
	l := must[api.Poly](t)(bipoly.Eliminate(p, q))
	if err := poly.Check(l); err != nil {
		t.Fatalf("Eliminate(%s, %s): %s: %v", show(p), show(q), showList(l), err)
	}
	return l
}

// drawRat returns a fraction whose parts have at most some bits; often 0, often an integer.
func drawRat(r *rand.Rand, bits int) api.Rat {
	if r.Intn(5) == 0 {
		return api.Rat{}
	}
	bound := new(big.Int).Lsh(big.NewInt(1), uint(1+r.Intn(bits)))
	n, d := new(big.Int).Rand(r, bound), big.NewInt(1)
	if r.Intn(2) > 0 {
		d.Add(d, new(big.Int).Rand(r, bound))
	}
	if r.Intn(2) == 0 {
		n.Neg(n)
	}
	return fromBig(new(big.Rat).SetFrac(n, d))
}

// draw returns a polynomial of at most some degree, whose powers of y are at most y^high; sometimes 0,
// sometimes with few terms, sometimes with nearly all.
func draw(r *rand.Rand, degree, high, bits int) api.BiPoly {
	var p api.BiPoly
	degree, rare := r.Intn(degree+2)-1, 1+r.Intn(4)
	for d := range degree + 1 {
		for i := range d + 1 {
			c := drawRat(r, bits)
			if d-i <= high && r.Intn(rare) == 0 && len(c.Num) > 0 {
				p = append(p, api.Term{I: i, J: d - i, C: c})
			}
		}
	}
	return p
}

// full returns a polynomial with all terms of at most some degree whose powers of y are at most y^high.
func full(r *rand.Rand, degree, high, bits int) api.BiPoly {
	var p api.BiPoly
	for d := range degree + 1 {
		for i := max(0, d-high); i <= d; i++ {
			c := drawRat(r, bits)
			if len(c.Num) == 0 {
				c = rat("-5/7")
			}
			p = append(p, api.Term{I: i, J: d - i, C: c})
		}
	}
	return p
}

// edges returns polynomials of low degrees with small, long and sparse coefficients.
func edges() []api.BiPoly {
	texts := []string{
		"", "1 0 0", "-1 0 0", "2/3 0 0", "340282366920938463463374607431768211457/3 0 0",
		"1 0 1", "1 1 0", "-1 0 1", "1 0 1, 1 1 0", "-1 0 1, 1 1 0", "1 0 1, -1 1 0", "5/2 0 0, -3 0 1, 1/7 1 0",
		"1 1 1", "1 0 2, 1 2 0", "-1 0 2, 1 2 0", "-2 0 0, 1 0 2, 1 2 0", "1 0 2, -2 1 1, 1 2 0", "1 0 2, 2 1 1, 1 2 0",
		"1 0 1, -1 2 0", "1 1 0, -1 0 2", "5 0 0, 2 0 2, 3 2 1", "-1 0 0, 1 3 0", "-1 0 0, 1 0 3",
		"1/4294967296 0 0, 18446744073709551617 1 2, -1/3 0 4", "1 0 3, 3 1 2, 3 2 1, 1 3 0", "-7/3 3 3",
	}
	var all []api.BiPoly
	for _, s := range texts {
		all = append(all, of(s))
	}
	return all
}

// pairs returns pairs of polynomials whose product has a degree of at most MaxDegree: all pairs of
// edges, and drawn ones.
func pairs(r *rand.Rand) [][2]api.BiPoly {
	var all [][2]api.BiPoly
	for _, p := range edges() {
		for _, q := range edges() {
			all = append(all, [2]api.BiPoly{p, q})
		}
	}
	for i := range 150 {
		bits := 2 + i%70
		all = append(all, [2]api.BiPoly{draw(r, 1+i%8, 24, bits), draw(r, 1+i%7, 24, bits)})
	}
	return append(all,
		[2]api.BiPoly{full(r, 12, 12, 3), full(r, 12, 12, 3)},
		[2]api.BiPoly{full(r, 24, 24, 3), of("-3/4 0 0")},
		[2]api.BiPoly{nil, full(r, 24, 24, 3)},
	)
}

// badRats returns fractions that are not valid.
func badRats() []api.Rat {
	return []api.Rat{
		{Neg: true},
		{Num: []uint32{1}},
		{Den: []uint32{1}},
		{Num: []uint32{0}, Den: []uint32{1}},
		{Num: []uint32{1, 0}, Den: []uint32{1}},
		{Num: []uint32{1}, Den: []uint32{0}},
		{Num: []uint32{6}, Den: []uint32{4}},
		{Neg: true, Num: []uint32{3}, Den: []uint32{3}},
	}
}

// towers returns towers of some levels, among them ones whose roots are fractions or 0.
func towers() []api.Tower {
	root := func(s string) api.Num { return list(s) }
	return []api.Tower{
		{},
		{Roots: []api.Num{root("2")}},
		{Roots: []api.Num{root("4")}},
		{Roots: []api.Num{root("0")}},
		{Roots: []api.Num{root("3/5"), root("7 -1/2")}},
		{Roots: []api.Num{root("2"), root("3 0"), root("6 0 0 0")}},
		{Roots: []api.Num{root("2"), root("3 1/2"), root("5 0 1/3 0"), root("0 0 0 0 1 0 0 1"), root("7 0 0 0 0 0 0 0 0 0 1 0 0 0 0 1/9")}},
	}
}

// drawNum returns a number of the tower, of any length that its numbers have.
func drawNum(r *rand.Rand, u api.Tower, bits int) api.Num {
	a := make(api.Num, []int{0, 1, 2, 4, 8, 16, 32}[r.Intn(len(u.Roots)+2)])
	for i := range a {
		a[i] = drawRat(r, bits)
	}
	return a
}
