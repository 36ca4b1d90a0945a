package matrix_test

import (
	"math/rand"
	"slices"
	"strings"
	"testing"

	"linkwork/api"
	"linkwork/fraction"
	"linkwork/matrix"
	"linkwork/tower"
)

// rat returns the fraction of a text.
func rat(s string) api.Rat {
	x, err := fraction.Parse(s)
	if err != nil {
		panic(s + " is no fraction")
	}
	return x
}

// num returns the number whose fractions are in a text with spaces.
func num(s string) api.Num {
	var a api.Num
	for _, c := range strings.Fields(s) {
		a = append(a, rat(c))
	}
	return a
}

// roots returns the tower with some numbers under its roots.
func roots(under ...string) api.Tower {
	var t api.Tower
	for _, s := range under {
		t.Roots = append(t.Roots, num(s))
	}
	return t
}

// of returns the matrix of a text, with semicolons between the rows and commas between their numbers.
func of(s string) [][]api.Num {
	var a [][]api.Num
	for _, row := range strings.Split(s, ";") {
		a = append(a, vector(row))
	}
	return a
}

// vector returns the numbers of a text, with commas between them.
func vector(s string) []api.Num {
	var l []api.Num
	for _, x := range strings.Split(s, ",") {
		l = append(l, num(x))
	}
	return l
}

// show returns the text of a matrix.
func show(a [][]api.Num) string {
	var texts []string
	for _, row := range a {
		texts = append(texts, showVector(row))
	}
	return strings.Join(texts, "; ")
}

// showVector returns the text of some numbers.
func showVector(l []api.Num) string {
	var texts []string
	for _, x := range l {
		texts = append(texts, showNum(x))
	}
	return strings.Join(texts, ", ")
}

// showNum returns the text of a number.
func showNum(x api.Num) string {
	var texts []string
	for _, c := range x {
		texts = append(texts, fraction.Text(c))
	}
	return strings.Join(texts, " ")
}

// showTower returns the text of a tower.
func showTower(u api.Tower) string {
	return "{" + showVector(u.Roots) + "}"
}

// sameRat reports whether the fields of x and y are equal.
func sameRat(x, y api.Rat) bool {
	return x.Neg == y.Neg && slices.Equal(x.Num, y.Num) && slices.Equal(x.Den, y.Den)
}

// sameNum reports whether a and b are the same lists.
func sameNum(a, b api.Num) bool {
	return slices.EqualFunc(a, b, sameRat)
}

// sameVector reports whether a and b have the same lists.
func sameVector(a, b []api.Num) bool {
	return slices.EqualFunc(a, b, sameNum)
}

// same reports whether a and b have the same lists.
func same(a, b [][]api.Num) bool {
	return slices.EqualFunc(a, b, sameVector)
}

// width returns the number of columns.
func width(a [][]api.Num) int {
	if len(a) == 0 {
		return 0
	}
	return len(a[0])
}

// transposed returns the columns of a as rows.
func transposed(a [][]api.Num) [][]api.Num {
	c := make([][]api.Num, width(a))
	for _, row := range a {
		for k, x := range row {
			c[k] = append(c[k], x)
		}
	}
	return c
}

// must returns a value that came without an error.
func must[V any](t *testing.T) func(v V, err error) V {
	return func(v V, err error) V {
		t.Helper()
		if err != nil {
			t.Fatalf("an error: %v", err)
		}
		return v
	}
}

// Functions of package tower without the error, for arguments that have none.

func add(u api.Tower, a, b api.Num) api.Num { return fine(tower.Add(u, a, b)) }
func sub(u api.Tower, a, b api.Num) api.Num { return fine(tower.Sub(u, a, b)) }
func mul(u api.Tower, a, b api.Num) api.Num { return fine(tower.Mul(u, a, b)) }
func cmp(u api.Tower, a, b api.Num) int     { return fine(tower.Cmp(u, a, b)) }
func sign(u api.Tower, a api.Num) int       { return fine(tower.Sign(u, a)) }

func fine[V any](v V, err error) V {
	if err != nil {
		panic(err)
	}
	return v
}

// Functions of this package without the error.

func rank(t *testing.T, u api.Tower, a [][]api.Num) int {
	t.Helper()
	return must[int](t)(matrix.Rank(u, a))
}

func det(t *testing.T, u api.Tower, a [][]api.Num) api.Num {
	t.Helper()
	x := must[api.Num](t)(matrix.Det(u, a))
	checkNum(t, u, x)
	return x
}

func kernel(t *testing.T, u api.Tower, a [][]api.Num) [][]api.Num {
	t.Helper()
	all := must[[][]api.Num](t)(matrix.Kernel(u, a))
	for _, x := range all {
		for _, c := range x {
			checkNum(t, u, c)
		}
	}
	return all
}

func redundant(t *testing.T, u api.Tower, a [][]api.Num) []int {
	t.Helper()
	return must[[]int](t)(matrix.Redundant(u, a))
}

func certify(t *testing.T, u api.Tower, a [][]api.Num) api.RankCert {
	t.Helper()
	return must[api.RankCert](t)(matrix.Certify(u, a))
}

func accepts(t *testing.T, u api.Tower, a [][]api.Num, c api.RankCert) bool {
	t.Helper()
	return must[bool](t)(matrix.Accepts(u, a, c))
}

func product(t *testing.T, u api.Tower, a, b [][]api.Num) [][]api.Num {
	t.Helper()
	c := must[[][]api.Num](t)(matrix.Mul(u, a, b))
	for _, row := range c {
		for _, x := range row {
			checkNum(t, u, x)
		}
	}
	return c
}

// checkNum checks that a result is a number of the tower.
func checkNum(t *testing.T, u api.Tower, x api.Num) {
	t.Helper()
	if !tower.Valid(u, x) {
		t.Fatalf("no number of %s: %v", showTower(u), x)
	}
}

// expectValues compares the values of numbers with the wanted ones.
func expectValues(t *testing.T, what string, u api.Tower, got, want []api.Num) {
	t.Helper()
	if !slices.EqualFunc(got, want, func(a, b api.Num) bool { return cmp(u, a, b) == 0 }) {
		t.Fatalf("%s in %s: %s, not %s", what, showTower(u), showVector(got), showVector(want))
	}
}

// expectInts compares a list with the wanted one.
func expectInts(t *testing.T, what string, got, want []int) {
	t.Helper()
	if !slices.Equal(got, want) {
		t.Fatalf("%s: %v, not %v", what, got, want)
	}
}

// setting is a tower, with numbers whose value is 0 although they are not the empty list.
type setting struct {
	tower api.Tower
	nulls []api.Num
}

// settings returns towers of all levels: with independent roots, and with roots that are fractions, 0, or
// sums and products of others.
func settings() []setting {
	null := func(texts ...string) []api.Num {
		var l []api.Num
		for _, s := range texts {
			l = append(l, num(s))
		}
		return l
	}
	return []setting{
		{tower: api.Tower{}},
		{tower: roots("2")},
		{tower: roots("3/8")},
		{roots("4"), null("2 -1", "4 -2")},
		{roots("0"), null("0 1")},
		{roots("9/16"), null("3 -4")},
		{tower: roots("2", "3 0")},
		{tower: roots("2", "0 1")},
		{tower: roots("5/7", "3/2 -1/3")},
		{roots("2", "3 2"), null("1 1 -1 0")},
		{roots("2", "3 -2"), null("-1 1 -1 0")},
		{roots("8", "2 0"), null("0 1 -2 0")},
		{tower: roots("2", "9 6")},
		{roots("4", "2 -1"), null("2 -1", "0 0 1 0", "0 0 0 1")},
		{roots("4", "2 1"), null("2 -1", "2 0 -1 0", "0 0 2 -1")},
		{roots("0", "5 -700"), null("0 1", "0 0 0 1")},
		{tower: roots("2", "3 0", "5 0 0 0")},
		{tower: roots("2", "3 1/2", "5 0 1/3 0")},
		{roots("2", "3 0", "6 0 0 0"), null("0 0 0 1 -1 0 0 0", "6 0 0 0 0 0 0 -1")},
		{roots("2", "3 0", "5 0 0 2"), null("0 1 1 0 -1 0 0 0")},
		{roots("2", "3 0", "9 6 0 0"), null("0 0 1 1 -1 0 0 0")},
		{roots("2", "3 2", "3 2 0 0"), null("1 1 -1 0", "0 0 1 0 -1 0 0 0")},
		{tower: roots("2", "5 1", "7 2 0 0")},
		{tower: roots("2", "3 0", "0 1 0 0", "7 -1 -1 1/3 0 0 0 -1/2")},
		{tower: roots("2", "3 0", "5 0 0 0", "7 0 0 0 0 0 0 0", "11 0 0 0 0 0 0 0 0 0 0 0 0 0 0 0")},
		// The last root is 1 + 2 s + the second one, as the third is the sum of the first two, and the
		// fourth is 1 + s.
		{
			roots("2", "3 0", "5 0 0 2", "3 2 0 0 0 0 0 0", "8 2 0 2 0 0 0 0 0 0 0 0 2 0 0 0"),
			null("1 1 0 0 0 0 0 0 -1 0 0 0 0 0 0 0", "0 1 1 0 -1 0 0 0"),
		},
	}
}

// drawRat returns a fraction whose parts have at most some bits; often 0, often an integer.
func drawRat(r *rand.Rand, bits int) api.Rat {
	if r.Intn(4) == 0 {
		return api.Rat{}
	}
	d := 1
	if r.Intn(3) == 0 {
		d += r.Intn(1 << bits)
	}
	return fine(fraction.Make(r.Intn(2<<bits)-1<<bits, d))
}

// drawNum returns a number of the tower, of any length that its numbers have; often with the value 0.
func drawNum(r *rand.Rand, s setting, bits int) api.Num {
	a := make(api.Num, []int{0, 1, 2, 4, 8, 16, 32}[r.Intn(len(s.tower.Roots)+2)])
	for i := range a {
		a[i] = drawRat(r, bits)
	}
	if len(s.nulls) == 0 || r.Intn(2) == 0 {
		return a
	}
	if r.Intn(3) == 0 {
		a = nil
	}
	null := s.nulls[r.Intn(len(s.nulls))]
	return add(s.tower, a, mul(s.tower, null, num("1 -1/2")[:1+r.Intn(min(2, len(null)))]))
}

// drawVector returns n numbers of the tower.
func drawVector(r *rand.Rand, s setting, n, bits int) []api.Num {
	l := make([]api.Num, n)
	for i := range l {
		l[i] = drawNum(r, s, bits)
	}
	return l
}

// draw returns a matrix; some rows and columns depend on others.
func draw(r *rand.Rand, s setting, height, width, bits int) [][]api.Num {
	a := make([][]api.Num, height)
	for i := range a {
		a[i] = drawVector(r, s, width, bits)
		if i > 0 && r.Intn(3) == 0 {
			x, y := drawNum(r, s, bits), drawNum(r, s, bits)
			for k := range a[i] {
				a[i][k] = add(s.tower, mul(s.tower, x, a[0][k]), mul(s.tower, y, a[i-1][k]))
			}
		}
	}
	if width > 1 && r.Intn(4) == 0 {
		k, x := r.Intn(width-1), drawNum(r, s, bits)
		for i := range a {
			a[i][k+1] = mul(s.tower, x, a[i][k])
		}
	}
	return a
}
