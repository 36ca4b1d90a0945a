package tower_test

import (
	"math/big"
	"math/rand"
	"slices"
	"strings"
	"testing"

	"linkwork/api"
	"linkwork/fraction"
	"linkwork/tower"
)

// num returns the list of fractions with some texts.
func num(texts ...string) api.Num {
	a := make(api.Num, len(texts))
	for i, s := range texts {
		a[i] = rat(s)
	}
	return a
}

// rat returns the fraction whose text is s.
func rat(s string) api.Rat {
	x, err := fraction.Parse(s)
	if err != nil {
		panic(s + " is no fraction")
	}
	return x
}

// roots returns the tower of some numbers, whose fractions are given by texts with spaces.
func roots(under ...string) api.Tower {
	var t api.Tower
	for _, s := range under {
		t.Roots = append(t.Roots, list(s))
	}
	return t
}

// list returns the fractions of a text with spaces between them.
func list(s string) api.Num {
	return num(strings.Fields(s)...)
}

// show returns the texts of the fractions of a.
func show(a api.Num) string {
	var texts []string
	for _, x := range a {
		texts = append(texts, fraction.Text(x))
	}
	return "[" + strings.Join(texts, " ") + "]"
}

// showTower returns the texts of the numbers under the roots.
func showTower(t api.Tower) string {
	s := ""
	for _, d := range t.Roots {
		s += show(d)
	}
	return "{" + s + "}"
}

// sameRat reports whether the fields of x and y are equal.
func sameRat(x, y api.Rat) bool {
	return x.Neg == y.Neg && slices.Equal(x.Num, y.Num) && slices.Equal(x.Den, y.Den)
}

// same reports whether a and b are the same lists.
func same(a, b api.Num) bool {
	return slices.EqualFunc(a, b, sameRat)
}

// sameTower reports whether t and u are the same towers.
func sameTower(t, u api.Tower) bool {
	return slices.EqualFunc(t.Roots, u.Roots, same)
}

// copyRat returns x in memory of its own.
func copyRat(x api.Rat) api.Rat {
	return api.Rat{Neg: x.Neg, Num: slices.Clone(x.Num), Den: slices.Clone(x.Den)}
}

// copyNum returns a in memory of its own.
func copyNum(a api.Num) api.Num {
	c := make(api.Num, 0, len(a))
	for _, x := range a {
		c = append(c, copyRat(x))
	}
	return c
}

// copyTower returns t in memory of its own.
func copyTower(t api.Tower) api.Tower {
	var u api.Tower
	for _, d := range t.Roots {
		u.Roots = append(u.Roots, copyNum(d))
	}
	return u
}

// must returns a, if it is a result of the wanted form: short, with valid fractions, no error.
func must(t *testing.T, a api.Num, err error) api.Num {
	t.Helper()
	if err != nil {
		t.Fatalf("an error: %v", err)
	}
	for _, x := range a {
		if !fraction.Valid(x) {
			t.Fatalf("not valid: %v", a)
		}
	}
	if n := len(a); n&(n-1) != 0 || n > 0 && slices.IndexFunc(a[n/2:], nonzero) < 0 {
		t.Fatalf("not short: %s", show(a))
	}
	return a
}

func nonzero(x api.Rat) bool {
	return len(x.Num) > 0
}

// Functions without the error, for arguments that have none.

func add(t *testing.T, u api.Tower, a, b api.Num) api.Num {
	t.Helper()
	c, err := tower.Add(u, a, b)
	return must(t, c, err)
}

func sub(t *testing.T, u api.Tower, a, b api.Num) api.Num {
	t.Helper()
	c, err := tower.Sub(u, a, b)
	return must(t, c, err)
}

func mul(t *testing.T, u api.Tower, a, b api.Num) api.Num {
	t.Helper()
	c, err := tower.Mul(u, a, b)
	return must(t, c, err)
}

func neg(t *testing.T, u api.Tower, a api.Num) api.Num {
	t.Helper()
	c, err := tower.Neg(u, a)
	return must(t, c, err)
}

func sign(t *testing.T, u api.Tower, a api.Num) int {
	t.Helper()
	s, err := tower.Sign(u, a)
	if err != nil {
		t.Fatalf("Sign(%s, %s): %v", showTower(u), show(a), err)
	}
	return s
}

func root(t *testing.T, u api.Tower, k int) api.Num {
	t.Helper()
	a, err := tower.Root(u, k)
	return must(t, a, err)
}

// extend returns the tower with the further root of d.
func extend(t *testing.T, u api.Tower, d api.Num) api.Tower {
	t.Helper()
	longer, _, err := tower.Extend(u, d)
	if err != nil {
		t.Fatalf("Extend(%s, %s): %v", showTower(u), show(d), err)
	}
	return longer
}

// level returns the number of roots of u.
func level(u api.Tower) int {
	return len(u.Roots)
}

// towers returns towers of all levels: with roots that are independent, that are fractions, that
// are 0, and that are sums or products of others.
func towers() []api.Tower {
	return []api.Tower{
		{},
		roots("2"),
		roots("4"),
		roots("0"),
		roots("11/4"),
		roots("9/4"),
		roots("1/340282366920938463463374607431768211457"),
		roots("340282366920938463463374607431768211457/3"),
		roots("2", "3 0"),
		roots("2", "3 2"),    // the second root is 1 + s
		roots("2", "0 1"),    // the fourth root of 2
		roots("4", "2 -1"),   // the value under the second root is 0
		roots("4", "2 1"),    // the second root is 2
		roots("0", "5 7"),    // the second root is that of 5
		roots("0", "5 -700"), // the value of the first root is 0, however great its coefficient
		roots("1/3", "2/5 -1/7"),
		roots("0", "0 0"),
		roots("2", "3 0", "6 0 0 0"), // the third root is the product of the others
		roots("2", "3 0", "5 0 0 2"), // the third root is the sum of the others
		roots("2", "3 2", "3 2 0 0"), // the second root twice
		roots("2/3", "1 1/2", "0 0 1 0"),
		// the value under the second root is below 2^-100
		roots("2", "-896364335596578238699711011639/633825300114114700748351602688 1", "0 0 1 0"),
		roots("2", "3 0", "0 1 0 0", "7 -1 -1 1/3 0 0 0 -1/2"),
		roots("4", "9 0", "0 0 0 0", "36 0 0 0 0 0 0 0"),
		roots("2", "2 1", "2 0 1 0", "2 0 0 0 1 0 0 0", "2 0 0 0 0 0 0 0 1 0 0 0 0 0 0 0"),
		roots("2", "3 0", "5 0 0 0", "7 0 0 0 0 0 0 0", "11 0 0 0 0 0 0 0 0 0 0 0 0 0 0 0"),
		// the last root is 1 + 2 s + the second one, as the third is the sum of the first two,
		// and the fourth is 1 + s
		roots("2", "3 0", "5 0 0 2", "3 2 0 0 0 0 0 0", "8 2 0 2 0 0 0 0 0 0 0 0 2 0 0 0"),
	}
}

// drawRat returns a fraction whose parts have at most some bits; often 0.
func drawRat(r *rand.Rand, bits int) api.Rat {
	if r.Intn(4) == 0 {
		return api.Rat{}
	}
	bound := new(big.Int).Lsh(big.NewInt(1), uint(1+r.Intn(bits)))
	n := new(big.Int).Rand(r, bound)
	d := big.NewInt(1)
	if r.Intn(3) > 0 {
		d.Add(d, new(big.Int).Rand(r, bound))
	}
	x := new(big.Rat).SetFrac(n, d)
	if r.Intn(2) == 0 {
		x.Neg(x)
	}
	return fromBig(x)
}

// drawNum returns a number of a tower of some level, not always as long as it can be, nor short.
func drawNum(r *rand.Rand, level, bits int) api.Num {
	if r.Intn(12) == 0 {
		return nil
	}
	if level > 0 && r.Intn(3) == 0 {
		level = r.Intn(level + 1)
	}
	a := make(api.Num, 1<<level)
	for i := range a {
		a[i] = drawRat(r, bits)
	}
	return a
}

// drawTower returns a tower of some level.
func drawTower(r *rand.Rand, level, bits int) api.Tower {
	var u api.Tower
	for k := range level {
		d := make(api.Num, 1<<k)
		for i := range d {
			d[i] = drawRat(r, bits)
		}
		if r.Intn(8) == 0 {
			// The square of a number of the tower has a root there already.
			d = fromModel(modelMul(u, toModel(d, k), toModel(d, k), k))
		}
		if realSign(realOf(u, d)) < 0 {
			for i := range d {
				d[i] = fraction.Neg(d[i])
			}
		}
		u.Roots = append(u.Roots, d)
	}
	return u
}

// numbers returns numbers of u: small ones, powers and roots, and drawn ones.
func numbers(r *rand.Rand, u api.Tower, drawn int) []api.Num {
	n := level(u)
	all := []api.Num{nil, num("0"), num("1"), num("-2/3"), make(api.Num, 1<<n)}
	for k := range n {
		a, b := make(api.Num, 2<<k), make(api.Num, 2<<k)
		a[0], a[1<<k] = rat("-3/2"), rat("1")
		b[0], b[2<<k-1] = rat("1"), rat("-1")
		all = append(all, a, b)
	}
	for i := range drawn {
		all = append(all, drawNum(r, n, 3+i%20))
	}
	return all
}

// drawnTowers returns some drawn towers of all levels, fewer of the higher ones.
func drawnTowers(r *rand.Rand) []api.Tower {
	var all []api.Tower
	for n, count := range []int{1, 12, 12, 8, 3, 1} {
		for i := range count {
			all = append(all, drawTower(r, n, 2+i%12))
		}
	}
	return all
}

// invalid returns fractions that are not valid.
func invalid() []api.Rat {
	return []api.Rat{
		{Neg: true},
		{Num: []uint32{1}},
		{Den: []uint32{1}},
		{Num: []uint32{0}, Den: []uint32{1}},
		{Num: []uint32{1, 0}, Den: []uint32{1}},
		{Num: []uint32{1}, Den: []uint32{0}},
		{Num: []uint32{6}, Den: []uint32{4}},
		{Neg: true, Num: []uint32{3}, Den: []uint32{3}},
	}
}
