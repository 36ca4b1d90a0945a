package matrix_test

import (
	"math/big"
	"math/rand"
	"slices"
	"testing"

	"linkwork/api"
	"linkwork/fraction"
	"linkwork/integer"
	"linkwork/matrix"
	"linkwork/residue"
)

// known is a matrix made so that what the functions return is known.
type known struct {
	a             [][]api.Num
	rows, columns []int
	// reduced has the identity in the columns, and what the other columns are made of.
	reduced [][]api.Num
}

// choose returns n of the numbers from 0 to m - 1, ascending.
func choose(r *rand.Rand, n, m int) []int {
	l := r.Perm(m)[:n]
	slices.Sort(l)
	return l
}

// build returns a matrix of some rank, the product of two that have as many columns, and rows.
func build(t *testing.T, r *rand.Rand, s setting, rank, height, width, bits int) known {
	t.Helper()
	k := known{rows: choose(r, rank, height), columns: choose(r, rank, width)}
	for i := range rank {
		row := make([]api.Num, width)
		for j := k.columns[i] + 1; j < width; j++ {
			if !slices.Contains(k.columns, j) {
				row[j] = drawNum(r, s, bits)
			}
		}
		row[k.columns[i]] = num("1")
		k.reduced = append(k.reduced, row)
	}
	left := make([][]api.Num, height)
	before := 0
	for i := range left {
		left[i] = make([]api.Num, rank)
		for j := range before {
			left[i][j] = drawNum(r, s, bits)
		}
		if slices.Contains(k.rows, i) {
			left[i][before] = num([]string{"1", "-1", "2/3", "-7"}[r.Intn(4)])
			before++
		}
	}
	k.a = modelMul(s.tower, left, k.reduced)
	if rank == 0 {
		for i := range k.a {
			k.a[i] = make([]api.Num, width)
		}
	}
	return k
}

// check compares what the functions return with what is known.
func (k known) check(t *testing.T, u api.Tower) {
	t.Helper()
	if n := rank(t, u, k.a); n != len(k.rows) {
		t.Fatalf("Rank: %d, not %d", n, len(k.rows))
	}
	var redundantRows, free []int
	for i := range k.a {
		if !slices.Contains(k.rows, i) {
			redundantRows = append(redundantRows, i)
		}
	}
	for j := range width(k.a) {
		if !slices.Contains(k.columns, j) {
			free = append(free, j)
		}
	}
	expectInts(t, "Redundant", redundant(t, u, k.a), redundantRows)
	c := certify(t, u, k.a)
	expectInts(t, "Rows", c.Rows, k.rows)
	expectInts(t, "Cols", c.Cols, k.columns)
	for _, solutions := range [][][]api.Num{c.Kernel, kernel(t, u, k.a)} {
		if len(solutions) != len(free) {
			t.Fatalf("Kernel: %d vectors", len(solutions))
		}
		for i, x := range solutions {
			want := make([]api.Num, width(k.a))
			want[free[i]] = num("1")
			for j, column := range k.columns {
				want[column] = sub(u, nil, k.reduced[j][free[i]])
			}
			expectValues(t, "a solution", u, x, want)
		}
	}
	if !accepts(t, u, k.a, c) {
		t.Fatalf("not accepted: %v", c)
	}
}

// P10.1, P10.2: matrices with known rows, columns and solutions, up to the greatest ones.
func TestKnown(t *testing.T) {
	r := rand.New(rand.NewSource(10))
	all := settings()
	for i := range 40 {
		height, width := 1+r.Intn(12), 1+r.Intn(12)
		s := all[i%len(all)]
		if len(s.tower.Roots) > 2 {
			height, width = 1+r.Intn(5), 1+r.Intn(5)
		}
		build(t, r, s, r.Intn(min(height, width)+1), height, width, 1+i%4).check(t, s.tower)
	}
	for _, n := range []int{0, 1, 7, 16, 31, 32} {
		build(t, r, all[0], n, 32, 32, 3).check(t, api.Tower{})
	}
	build(t, r, all[0], 3, 3, 32, 20).check(t, api.Tower{})
	build(t, r, all[0], 3, 32, 3, 20).check(t, api.Tower{})
	build(t, r, all[1], 12, 20, 24, 2).check(t, all[1].tower)
}

// P10.1: in a tower whose root is a fraction the values are those of the matrix of fractions. The other
// root of the same number would make the lists grow at each step.
func TestFractionRoots(t *testing.T) {
	r := rand.New(rand.NewSource(11))
	u := roots("4")
	for _, n := range []int{1, 5, 12, 24} {
		a, plain := make([][]api.Num, n), make([][]api.Num, n)
		for i := range n {
			for range n {
				x := api.Num{drawRat(r, 6), drawRat(r, 6)}
				a[i] = append(a[i], x)
				plain[i] = append(plain[i], api.Num{fraction.Add(x[0], fraction.Mul(rat("2"), x[1]))})
			}
		}
		expectValues(t, "Det", u, []api.Num{det(t, u, a)}, []api.Num{det(t, api.Tower{}, plain)})
		b := drawVector(r, setting{tower: u}, n, 6)
		x, err := matrix.Solve(u, a, b)
		y, plainErr := matrix.Solve(u, plain, b)
		if err != plainErr {
			t.Fatalf("Solve: %v, %v", err, plainErr)
		}
		expectValues(t, "Solve", u, x, y)
	}
}

// bigDet returns the determinant of a matrix of integers, by Bareiss' elimination.
func bigDet(a [][]*big.Int) *big.Int {
	n, last, negative := len(a), big.NewInt(1), false
	for k := range n {
		pivot := slices.IndexFunc(a[k:], func(row []*big.Int) bool { return row[k].Sign() != 0 })
		if pivot < 0 {
			return new(big.Int)
		}
		if pivot > 0 {
			a[k], a[k+pivot] = a[k+pivot], a[k]
			negative = !negative
		}
		for i := k + 1; i < n; i++ {
			for j := k + 1; j < n; j++ {
				x := new(big.Int).Mul(a[i][j], a[k][k])
				x.Sub(x, new(big.Int).Mul(a[i][k], a[k][j]))
				a[i][j] = x.Quo(x, last)
			}
		}
		last = a[k][k]
	}
	if negative {
		return new(big.Int).Neg(last)
	}
	return last
}

// P10.1: determinants of integers, and the rules for factors of rows and columns.
func TestDeterminants(t *testing.T) {
	r := rand.New(rand.NewSource(12))
	for i := range 60 {
		n := i % 33
		bound := new(big.Int).Lsh(big.NewInt(1), uint(1+r.Intn(90)))
		a, b := make([][]api.Num, n), make([][]*big.Int, n)
		for i := range n {
			for range n {
				x := new(big.Int).Rand(r, bound)
				x.Sub(x, new(big.Int).Rsh(bound, 1))
				if r.Intn(5) == 0 {
					x.SetInt64(0)
				}
				a[i], b[i] = append(a[i], num(x.String())), append(b[i], x)
			}
		}
		want := num("1")
		if n > 0 {
			want = num(bigDet(b).String())
		}
		expectValues(t, "Det", api.Tower{}, []api.Num{det(t, api.Tower{}, a)}, []api.Num{want})
		if n == 0 {
			continue
		}
		// A row over 6, a column times 10/3.
		k := r.Intn(n)
		for i := range n {
			a[k][i] = mul(api.Tower{}, a[k][i], num("1/6"))
		}
		for i := range n {
			a[i][n-1-k] = mul(api.Tower{}, a[i][n-1-k], num("10/3"))
		}
		expectValues(t, "Det with factors", api.Tower{}, []api.Num{det(t, api.Tower{}, a)}, []api.Num{mul(api.Tower{}, want, num("5/9"))})
	}
}

// primes returns the product of the first n primes that are used.
func primes(n int) string {
	product, p := integer.Of(1), residue.First
	for range n {
		product = integer.Mul(product, integer.Of(int(p)))
		p = p.Before()
	}
	return integer.Text(product)
}

// P10.1: minors that the primes divide, but that are not 0.
func TestPrimes(t *testing.T) {
	for _, u := range []api.Tower{{}, roots("2"), roots("3/8", "5 1")} {
		for _, n := range []int{1, 2, 3, 8, 20} {
			p := primes(n)
			more := fraction.Text(fraction.Add(rat(p), rat("1")))
			texts := []string{
				p, p + ", 0; 1, 0", p + ", 1; 0, 0", "1, 1; 1, " + more,
				"1, 1; 1, " + more + "; 0, 1", "1, 1, 0; 1, " + more + ", 1", "1, 1, 1; 1, " + more + ", 5/7",
				"1, 1, 2; 1, " + more + ", 3; 2, 2, 4; 0, 1, 1",
				p + ", 1; 1, " + p, "1/" + p + ", 1; 1, 1/" + p,
			}
			// The determinant p of numbers with half of its bits.
			x, _ := integer.Root(fine(integer.Parse(p)))
			root := integer.Text(x)
			rest := fraction.Text(fraction.Sub(rat(p), fraction.Mul(rat(root), rat(root))))
			texts = append(texts, root+", "+rest+"; -1, "+root, root+", "+rest+", 1; -1, "+root+", 1; 0, 0, 0")
			if len(u.Roots) > 0 {
				texts = append(texts, "1, 0 1; 0 1, 2 "+p, "1, 0 1; 0 1, "+more+" "+p, "1 -1, 1; -2 1, -2 "+p+"; 1, 1")
			}
			if len(u.Roots) > 1 {
				texts = append(texts, "1, 0 0 1 0; 1, 0 0 "+more+" 0", "1, 0 0 1 1; 1, 0 "+p+" 1 1")
			}
			for _, s := range texts {
				a := of(s)
				checkAll(t, u, a)
				checkAll(t, u, transposed(a))
				checkSolve(t, u, a, drawVector(rand.New(rand.NewSource(1)), setting{tower: u}, len(a), 3))
				checkSolve(t, u, a, modelTimes(u, a, slices.Repeat(vector("-3/2"), width(a))))
			}
		}
	}
}

// P10.1: a first number that has no inverse modulo the first prime, though it is not 0 there.
func TestNorms(t *testing.T) {
	y := 1
	root, ok := fraction.Root(fraction.Of(int(residue.First) + 2))
	for ; !ok; y++ {
		root, ok = fraction.Root(fraction.Of(int(residue.First) + 2*(y+1)*(y+1)))
	}
	// With s^2 = 2 the norm of x is the prime.
	x := fraction.Text(root) + " " + fraction.Text(fraction.Of(y))
	for _, s := range []string{x, x + ", 1; 1, 1", x + ", 0 1; 2, 3", "1, 1; 1, 0; " + x + ", 5", x + ", " + x + "; 0 1, 0 1"} {
		checkAll(t, roots("2"), of(s))
		checkSolve(t, roots("2"), of(s), slices.Repeat(vector("1 1"), len(of(s))))
	}
}

// P10.1: long numbers under the roots make short numbers great.
func TestLongRoots(t *testing.T) {
	r := rand.New(rand.NewSource(14))
	long := "340282366920938463463374607431768211457"
	for _, u := range []api.Tower{
		roots(long), roots("1/" + long), roots(long+"/7", "3 0"), roots(long+long, long+" 1"), roots("2", long+" "+long, "0 0 1 1"),
	} {
		last := make(api.Num, 1<<len(u.Roots))
		last[len(last)-1] = rat("1")
		a := [][]api.Num{{last, num("1"), nil}, {num("0 1"), last, num("1 1")}, {num("2"), num("-1 1"), last}}
		b := [][]api.Num{{last, num("0 1")}, {num("1 1"), last}, {nil, num("3")}}
		if got, want := product(t, u, a, b), modelMul(u, a, b); !same(got, want) {
			t.Fatalf("%s times %s in %s: %s, not %s", show(a), show(b), showTower(u), show(got), show(want))
		}
		checkAll(t, u, a)
		checkAll(t, u, b)
		checkAll(t, u, modelMul(u, b, a[:2]))
		checkSolve(t, u, a, drawVector(r, setting{tower: u}, 3, 2))
	}
}

// P10.1: products whose numbers are longer than many primes.
func TestLongProducts(t *testing.T) {
	r := rand.New(rand.NewSource(13))
	for _, s := range settings()[:8] {
		long := make(api.Num, 1<<len(s.tower.Roots))
		for i := range long {
			bound := new(big.Int).Lsh(big.NewInt(1), uint(100+r.Intn(900)))
			n, d := new(big.Int).Rand(r, bound), new(big.Int).Rand(r, bound)
			long[i] = rat(new(big.Rat).SetFrac(n.Sub(n, new(big.Int).Rsh(bound, 1)), d.Add(d, big.NewInt(1))).RatString())
		}
		a, b := draw(r, s, 3, 4, 5), draw(r, s, 4, 2, 5)
		a[1][2], a[2][0], b[2][1], b[0][0] = long, long, sub(s.tower, nil, long), long
		got, want := product(t, s.tower, a, b), modelMul(s.tower, a, b)
		if !same(got, want) {
			t.Fatalf("%s times %s in %s: %s, not %s", show(a), show(b), showTower(s.tower), show(got), show(want))
		}
	}
}
