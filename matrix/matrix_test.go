package matrix_test

import (
	"errors"
	"math/rand"
	"slices"
	"testing"

	"linkwork/api"
	"linkwork/matrix"
)

// checkAll compares what the functions return for a with the definitions.
func checkAll(t *testing.T, u api.Tower, a [][]api.Num) {
	t.Helper()
	rows, others := modelChosen(u, a)
	columns, free := modelChosen(u, transposed(a))
	if got := rank(t, u, a); got != len(rows) || got != len(columns) {
		t.Fatalf("Rank(%s, %s): %d, not %d", showTower(u), show(a), got, len(rows))
	}
	expectInts(t, "Redundant of "+show(a)+" in "+showTower(u), redundant(t, u, a), others)
	solutions := kernel(t, u, a)
	checkKernel(t, u, a, solutions, free)
	c := certify(t, u, a)
	expectInts(t, "the rows of "+show(a)+" in "+showTower(u), c.Rows, rows)
	expectInts(t, "the columns of "+show(a)+" in "+showTower(u), c.Cols, columns)
	checkKernel(t, u, a, c.Kernel, free)
	if !accepts(t, u, a, c) {
		t.Fatalf("the certificate of %s in %s is not accepted: %v", show(a), showTower(u), c)
	}
	if len(a) == width(a) {
		expectValues(t, "Det of "+show(a), u, []api.Num{det(t, u, a)}, []api.Num{modelDet(u, a)})
	}
}

// checkKernel checks that solutions are those for the columns that are no pivot columns: there is only
// one solution with given numbers there.
func checkKernel(t *testing.T, u api.Tower, a, solutions [][]api.Num, free []int) {
	t.Helper()
	if len(solutions) != len(free) {
		t.Fatalf("Kernel(%s, %s): %s for %v", showTower(u), show(a), show(solutions), free)
	}
	for i, x := range solutions {
		if len(x) != width(a) {
			t.Fatalf("Kernel(%s, %s): %s", showTower(u), show(a), show(solutions))
		}
		expectValues(t, "a x of "+show(a)+" and "+showVector(x), u, modelTimes(u, a, x), make([]api.Num, len(a)))
		for k, column := range free {
			want := num("")
			if k == i {
				want = num("1")
			}
			expectValues(t, "x of "+show(a), u, []api.Num{x[column]}, []api.Num{want})
		}
	}
}

// checkSolve compares Solve with the definition.
func checkSolve(t *testing.T, u api.Tower, a [][]api.Num, b []api.Num) {
	t.Helper()
	x, err := matrix.Solve(u, a, b)
	var joined [][]api.Num
	for i, row := range a {
		joined = append(joined, append(slices.Clone(row), b[i]))
	}
	n := modelRank(u, a)
	var want error
	if modelRank(u, joined) > n {
		want = api.ErrInfeasible
	} else if n < width(a) {
		want = api.ErrUnknown
	}
	if want != nil {
		if !errors.Is(err, want) || len(x) > 0 {
			t.Fatalf("Solve(%s, %s, %s): %s, %v, not %v", showTower(u), show(a), showVector(b), showVector(x), err, want)
		}
		return
	}
	if err != nil || len(x) != width(a) {
		t.Fatalf("Solve(%s, %s, %s): %s, %v", showTower(u), show(a), showVector(b), showVector(x), err)
	}
	for _, c := range x {
		checkNum(t, u, c)
	}
	expectValues(t, "a x for "+show(a), u, modelTimes(u, a, x), b)
}

// P10.1: the functions agree with the definitions by minors, in towers of all kinds.
func TestDefinitions(t *testing.T) {
	r := rand.New(rand.NewSource(1))
	for _, s := range settings() {
		for _, x := range s.nulls {
			if sign(s.tower, x) != 0 || len(x) == 0 {
				t.Fatalf("not 0 in %s: %s", showTower(s.tower), showNum(x))
			}
		}
		for i := range max(1, 60>>len(s.tower.Roots)) {
			checkAll(t, s.tower, draw(r, s, r.Intn(4), r.Intn(5), 1+i%9))
			a := draw(r, s, 1+i%3, 1+i%3, 1+i%9)
			checkAll(t, s.tower, a)
			checkSolve(t, s.tower, a, drawVector(r, s, len(a), 3))
			checkSolve(t, s.tower, a, modelTimes(s.tower, a, drawVector(r, s, width(a), 3)))
		}
	}
}

// P10.1: larger matrices, of fractions and of numbers with a root.
func TestLarger(t *testing.T) {
	r := rand.New(rand.NewSource(2))
	for i, s := range settings()[:5] {
		for height := range 7 {
			a := draw(r, s, height, (height*3+i)%7, 2+i)
			checkAll(t, s.tower, a)
			checkAll(t, s.tower, draw(r, s, height%6, height%6, 20))
			checkSolve(t, s.tower, a, drawVector(r, s, height, 4))
			checkSolve(t, s.tower, a, modelTimes(s.tower, a, drawVector(r, s, width(a), 4)))
		}
	}
}

// P10.1: Mul returns the sums of the products: the lists too.
func TestMul(t *testing.T) {
	r := rand.New(rand.NewSource(3))
	for _, s := range settings() {
		for i := range max(1, 40>>len(s.tower.Roots)) {
			a, b := draw(r, s, 1+r.Intn(4), 1+i%4, 1+i%20), draw(r, s, 1+i%4, r.Intn(4), 1+i%20)
			got, want := product(t, s.tower, a, b), modelMul(s.tower, a, b)
			if !same(got, want) {
				t.Fatalf("%s times %s in %s: %s, not %s", show(a), show(b), showTower(s.tower), show(got), show(want))
			}
		}
	}
	u := roots("4")
	for _, c := range []struct{ a, b, want string }{
		{"1, 2", "3, 4; 5, 6", "13, 16"},
		{"0 1; 1", "0 1, 1 1", "4, 4 1; 0 1, 1 1"},
		{"2 -1", "2 1", ""},
		{"2 -1", "1", "2 -1"},
		{"1/2, -1/3", "2/3; 3/2", "-1/6"},
		{"1 0", "0 0 ", ""},
	} {
		got, want := product(t, u, of(c.a), of(c.b)), of(c.want)
		if c.want == "" {
			want = [][]api.Num{{nil}}
		}
		if !same(got, want) {
			t.Errorf("%s times %s: %s, not %s", c.a, c.b, show(got), c.want)
		}
	}
}

// P10.1: the numbers of rows and columns of products, also without any.
func TestShapesOfProducts(t *testing.T) {
	for height := range 4 {
		for middle := range 4 {
			for width := range 4 {
				a, b := make([][]api.Num, height), make([][]api.Num, middle)
				for i := range a {
					a[i] = slices.Repeat([]api.Num{num("1")}, middle)
				}
				for i := range b {
					b[i] = slices.Repeat([]api.Num{num("1")}, width)
				}
				c, err := matrix.Mul(api.Tower{}, a, b)
				if height == 0 && middle > 0 {
					// A matrix without rows has no columns.
					if err != api.ErrShape || len(c) > 0 {
						t.Errorf("no rows times %d rows: %v", middle, err)
					}
					continue
				}
				if err != nil || len(c) != height {
					t.Fatalf("%d x %d times %d x %d: %v, %v", height, middle, middle, width, c, err)
				}
				for _, row := range c {
					if middle == 0 && len(row) > 0 || middle > 0 && len(row) != width {
						t.Fatalf("%d x %d times %d x %d: %v", height, middle, middle, width, c)
					}
					expectValues(t, "a product of ones", api.Tower{}, row, slices.Repeat([]api.Num{num([]string{"", "1", "2", "3"}[middle])}, len(row)))
				}
			}
		}
	}
}

// P10.1: the examples of the chapter.
func TestExamples(t *testing.T) {
	u := roots("2")
	a := of("1, 0 1; 0 1, 2")
	if n := rank(t, u, a); n != 1 {
		t.Errorf("Rank: %d", n)
	}
	expectInts(t, "Redundant", redundant(t, u, a), []int{1})
	solutions := kernel(t, u, a)
	if len(solutions) != 1 {
		t.Fatalf("Kernel: %s", show(solutions))
	}
	expectValues(t, "Kernel", u, solutions[0], vector("0 -1, 1"))
	expectValues(t, "Det", u, []api.Num{det(t, u, of("1, 0 1; 0 1, 1"))}, vector("-1"))
}

// P10.1: matrices without rows, without columns, and of zeros.
func TestEmpty(t *testing.T) {
	for _, u := range []api.Tower{{}, roots("2", "3 0")} {
		for height := range 4 {
			for width := range 4 {
				a := make([][]api.Num, height)
				for i := range a {
					a[i] = make([]api.Num, width)
				}
				checkAll(t, u, a)
				checkSolve(t, u, a, make([]api.Num, height))
				if height > 0 {
					b := make([]api.Num, height)
					b[height-1] = num("0 1 0 0")[:1+len(u.Roots)/2*3]
					checkSolve(t, u, a, b)
				}
			}
		}
		expectValues(t, "Det without rows", u, []api.Num{det(t, u, nil)}, vector("1"))
		if x, err := matrix.Solve(u, nil, nil); err != nil || len(x) > 0 {
			t.Errorf("Solve without rows: %v, %v", x, err)
		}
		none := make([][]api.Num, 3)
		if x, err := matrix.Solve(u, none, vector(", , 1")); err != api.ErrInfeasible || len(x) > 0 {
			t.Errorf("Solve without columns: %v, %v", x, err)
		}
		if x, err := matrix.Solve(u, none, vector(", 0, ")); err != nil || len(x) > 0 {
			t.Errorf("Solve without columns, for zeros: %v, %v", x, err)
		}
	}
}

// P10.1: numbers are compared by their values, whatever their lists are.
func TestValues(t *testing.T) {
	for _, c := range []struct {
		u    api.Tower
		a    string
		rank int
	}{
		{roots("4"), "2 -1", 0},
		{roots("4"), "2 1", 1},
		{roots("0"), "0 7", 0},
		{roots("4"), "1, 2; 0 1, 4", 1},
		{roots("4"), "1, 0 1; 0 1, 4", 1},
		{roots("4"), "1, 0 1; 0 1, 5", 2},
		{roots("1/4"), "1/2, 1; 0 1, 1", 1},
		{roots("2", "3 0", "6 0 0 0"), "0 1 0 0, 0 0 0 0 1 0 0 0; 1, 0 0 1 0", 1},
		{roots("2", "3 2"), "1, 0 0 1 0; 0 0 1 0, 3 2", 1},
		{roots("2", "3 2"), "1 1, 0 0 1 0; 0 0 1 0, 3 2", 2},
		{roots("2", "3 2"), "1 1, 3 2; 1, 0 0 1 0", 1},
		{roots("2", "3 2", "7 3 0 0"), "1 1, 0 0 -1 0; 1, -1", 1},
	} {
		if n := rank(t, c.u, of(c.a)); n != c.rank {
			t.Errorf("Rank(%s, %s): %d", showTower(c.u), c.a, n)
		}
		checkAll(t, c.u, of(c.a))
	}
}
