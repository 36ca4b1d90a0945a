package matrix_test

import (
	"math/rand"
	"slices"
	"testing"

	"linkwork/api"
	"linkwork/matrix"
)

// P10.3: ranks and the numbers of rows and columns, a row more, the transposed matrix, and products.
func TestRanks(t *testing.T) {
	r := rand.New(rand.NewSource(30))
	for i, s := range settings() {
		for range max(1, 40>>len(s.tower.Roots)) {
			a, b := draw(r, s, 1+r.Intn(6), 1+i%6, 3), draw(r, s, 1+i%6, 1+r.Intn(6), 3)
			n := rank(t, s.tower, a)
			if n > len(a) || n > width(a) || n < 0 {
				t.Fatalf("the rank of %s: %d", show(a), n)
			}
			if m := rank(t, s.tower, transposed(a)); m != n {
				t.Fatalf("the rank of the transposed matrix of %s: %d, not %d", show(a), m, n)
			}
			if c := rank(t, s.tower, product(t, s.tower, a, b)); c > n || c > rank(t, s.tower, b) {
				t.Fatalf("the rank of the product of %s and %s: %d", show(a), show(b), c)
			}
			checkMore(t, r, s, a, n)
		}
	}
}

// checkMore checks the rank with a row more: one that depends on the others, or a drawn one.
func checkMore(t *testing.T, r *rand.Rand, s setting, a [][]api.Num, n int) {
	t.Helper()
	dependent := modelMul(s.tower, [][]api.Num{drawVector(r, s, len(a), 3)}, a)[0]
	if m := rank(t, s.tower, append(slices.Clone(a), dependent)); m != n {
		t.Fatalf("the rank of %s and %s: %d, not %d", show(a), showVector(dependent), m, n)
	}
	row := drawVector(r, s, width(a), 3)
	more := append(slices.Clone(a), row)
	m := rank(t, s.tower, more)
	if m != n && m != n+1 {
		t.Fatalf("the rank of %s and %s: %d, not %d", show(a), showVector(row), m, n)
	}
	depends := slices.Contains(redundant(t, s.tower, more), len(a))
	if depends != (m == n) {
		t.Fatalf("%s, a row more than %s: %v", showVector(row), show(a), depends)
	}
}

// P10.3: the same for greater matrices of fractions.
func TestGreaterRanks(t *testing.T) {
	r := rand.New(rand.NewSource(31))
	s := settings()[0]
	for i := range 30 {
		height, middle, width := 1+r.Intn(32), 1+r.Intn(32), 1+r.Intn(32)
		a, b := draw(r, s, height, middle, 1+i), draw(r, s, middle, width, 1+i)
		m, n := rank(t, s.tower, a), rank(t, s.tower, b)
		c := product(t, s.tower, a, b)
		k := rank(t, s.tower, c)
		if k > m || k > n || k < m+n-middle {
			t.Fatalf("the rank of a product of ranks %d and %d: %d", m, n, k)
		}
		if rank(t, s.tower, transposed(c)) != k || len(c)-len(redundant(t, s.tower, c)) != k || width-len(kernel(t, s.tower, c)) != k {
			t.Fatalf("the rank of a product: %d", k)
		}
		if cert := certify(t, s.tower, c); len(cert.Rows) != k || !accepts(t, s.tower, c, cert) {
			t.Fatalf("the certificate of a product: %v", cert.Rows)
		}
	}
}

// P10.4: solutions satisfy their equations; a solution of all equations is found where it is the only one.
func TestSolutions(t *testing.T) {
	r := rand.New(rand.NewSource(32))
	for i, s := range settings() {
		for range max(1, 30>>len(s.tower.Roots)) {
			a, b := draw(r, s, 1+r.Intn(5), 1+i%4, 4), drawVector(r, s, 5, 4)
			x, err := matrix.Solve(s.tower, a, b[:len(a)])
			if err == nil {
				expectValues(t, "a x", s.tower, modelTimes(s.tower, a, x), b[:len(a)])
			}
			want := drawVector(r, s, width(a), 4)
			x, err = matrix.Solve(s.tower, a, modelTimes(s.tower, a, want))
			if rank(t, s.tower, a) < width(a) {
				if err != api.ErrUnknown || len(x) > 0 {
					t.Fatalf("Solve(%s): %v", show(a), err)
				}
				continue
			}
			if err != nil {
				t.Fatalf("Solve(%s): %v", show(a), err)
			}
			expectValues(t, "x", s.tower, x, want)
		}
	}
}

// P10.4: the determinant of a product, and where a determinant is 0.
func TestDeterminantsOfProducts(t *testing.T) {
	r := rand.New(rand.NewSource(33))
	for i, s := range settings() {
		for range max(1, 30>>len(s.tower.Roots)) {
			n := 1 + (i+r.Intn(4))%5
			a, b := draw(r, s, n, n, 3), draw(r, s, n, n, 3)
			x, y := det(t, s.tower, a), det(t, s.tower, b)
			c := product(t, s.tower, a, b)
			expectValues(t, "the determinant of a product", s.tower, []api.Num{det(t, s.tower, c)}, []api.Num{mul(s.tower, x, y)})
			expectValues(t, "the determinant of the transposed matrix", s.tower, []api.Num{det(t, s.tower, transposed(a))}, []api.Num{x})
			for _, m := range [][][]api.Num{a, b, c} {
				if (sign(s.tower, det(t, s.tower, m)) == 0) != (len(redundant(t, s.tower, m)) > 0) {
					t.Fatalf("the determinant of %s in %s", show(m), showTower(s.tower))
				}
			}
		}
	}
	s := settings()[0]
	for _, n := range []int{12, 25, 32} {
		a, b := draw(r, s, n, n, 9), draw(r, s, n, n, 9)
		for i := range n {
			a[i][i], b[i][n-1-i] = num("1000001/3"), num("-7000001")
		}
		x, y := det(t, s.tower, a), det(t, s.tower, b)
		expectValues(t, "the determinant of a product", s.tower, []api.Num{det(t, s.tower, product(t, s.tower, a, b))}, []api.Num{mul(s.tower, x, y)})
	}
}
