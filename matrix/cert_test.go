package matrix_test

import (
	"math/rand"
	"slices"
	"testing"

	"linkwork/api"
	"linkwork/matrix"
)

// modelAccepts reports whether a certificate without errors is to be accepted, by the definitions.
func modelAccepts(u api.Tower, a [][]api.Num, c api.RankCert) bool {
	var minor [][]api.Num
	for _, i := range c.Rows {
		var row []api.Num
		for _, k := range c.Cols {
			row = append(row, a[i][k])
		}
		minor = append(minor, row)
	}
	if len(minor) > 0 && sign(u, modelDet(u, minor)) == 0 || len(c.Kernel) != width(a)-len(c.Cols) {
		return false
	}
	for _, x := range c.Kernel {
		for _, y := range modelTimes(u, a, x) {
			if sign(u, y) != 0 {
				return false
			}
		}
	}
	return modelRank(u, c.Kernel) == len(c.Kernel)
}

// other returns another certificate, perhaps a wrong one: another minor, other vectors.
func other(r *rand.Rand, s setting, a [][]api.Num, c api.RankCert) api.RankCert {
	n := len(c.Rows)
	if r.Intn(6) == 0 {
		n = r.Intn(min(len(a), width(a)) + 1)
	}
	d := api.RankCert{Rows: choose(r, n, len(a)), Cols: choose(r, n, width(a))}
	for i, x := range c.Kernel {
		sum := slices.Clone(x)
		for j, y := range c.Kernel {
			factor := drawNum(r, s, 2)
			for k := range sum {
				if i != j && r.Intn(3) > 0 {
					sum[k] = add(s.tower, sum[k], mul(s.tower, factor, y[k]))
				}
			}
		}
		d.Kernel = append(d.Kernel, sum)
	}
	switch r.Intn(8) {
	case 0:
		d.Kernel = append(d.Kernel, make([]api.Num, width(a)))
	case 1:
		d.Kernel = d.Kernel[:max(0, len(d.Kernel)-1)]
	case 2:
		if len(d.Kernel) > 1 {
			d.Kernel[0] = d.Kernel[1]
		}
	}
	return d
}

// P10.2: what is accepted proves the rank, and nothing else is refused.
func TestOtherCertificates(t *testing.T) {
	r := rand.New(rand.NewSource(20))
	counts := map[bool]int{}
	for _, s := range settings() {
		for i := range max(1, 100>>len(s.tower.Roots)) {
			a := draw(r, s, r.Intn(4), 1+r.Intn(4), 1+i%5)
			c := certify(t, s.tower, a)
			for range 4 {
				d := other(r, s, a, c)
				got, want := accepts(t, s.tower, a, d), modelAccepts(s.tower, a, d)
				if got != want {
					t.Fatalf("Accepts(%s, %s, %v %v %s): %v", showTower(s.tower), show(a), d.Rows, d.Cols, show(d.Kernel), got)
				}
				if got && len(d.Rows) != modelRank(s.tower, a) {
					t.Fatalf("the rank of %s is not %d", show(a), len(d.Rows))
				}
				counts[got]++
			}
		}
	}
	if counts[true] < 300 || counts[false] < 300 {
		t.Errorf("%d are accepted, %d not", counts[true], counts[false])
	}
}

// P10.2: each reason to refuse a certificate by itself.
func TestRefused(t *testing.T) {
	u := roots("4")
	a := of("1, 0 1, 1; 2, 4, 1; 3, 3 1 , 2")
	a[2][1] = num("2 2")
	for _, c := range []struct {
		rows, cols []int
		kernel     string
		want       bool
	}{
		{[]int{0, 1}, []int{0, 2}, "-2, 1, 0", true},
		{[]int{0, 1}, []int{0, 2}, "0 -1, 1, 2 -1", true},
		{[]int{1, 2}, []int{1, 2}, "-6, 3, 0", true},
		{[]int{0, 2}, []int{0, 2}, "-2, 1, 0", true},
		{[]int{0, 1}, []int{0, 1}, "-2, 1, 0", false},                 // the minor is 0
		{[]int{0, 1}, []int{0, 2}, "-2, 1, 1", false},                 // no solution
		{[]int{0, 1}, []int{0, 2}, "0, 0, 0", false},                  // the vector depends on none
		{[]int{0, 1}, []int{0, 2}, "2 -1, 0, 4 -2", false},            // its values are 0
		{[]int{0, 1}, []int{0, 2}, "-2, 1, 0; -4, 2, 0", false},       // too many
		{[]int{0}, []int{0}, "-2, 1, 0; -4, 2, 0", false},             // they depend on each other
		{[]int{0}, []int{0}, "-2, 1, 0; -1, 0, 1", false},             // one is no solution
		{[]int{0}, []int{0}, "-2, 1, 0", false},                       // too few
		{[]int{0, 1, 2}, []int{0, 1, 2}, "", false},                   // the minor is 0
		{nil, nil, "1, 0, 0; 0, 1, 0; 0, 0, 1", false},                // no solutions
		{nil, nil, "-2, 1, 0; -2, 1, 0; -2, 1, 0", false},             // they depend on each other
		{nil, nil, "-2, 1, 0; -2, 1, 0; -2, 1, 0; -2, 1, 0", false},   // and are too many
		{[]int{0, 1}, []int{0, 2}, "", false},                         // none
		{[]int{0, 1}, []int{0, 2}, "-2, 1, 0; 0, 0, 0", false},        // one too many
		{[]int{2}, []int{1}, "-2, 1, 0; 0 -1, 1, 0", false},           // they depend on each other by their values
		{[]int{0, 1}, []int{0, 2}, "0 -1 , 2 -1, 2 -1", false},        // the value is (-2, 0, 0)
		{[]int{0, 1}, []int{0, 2}, "-2, 3 -1, 4 -2", true},            // the value is (-2, 1, 0)
		{[]int{0, 1}, []int{1, 2}, "-1, 1/2, 0 0", true},              // half of the vector
		{[]int{0, 1}, []int{1, 2}, "-1000, 500, 1/1000000000", false}, // nearly one
	} {
		d := api.RankCert{Rows: c.rows, Cols: c.cols}
		if c.kernel != "" {
			d.Kernel = of(c.kernel)
		}
		if got := accepts(t, u, a, d); got != c.want {
			t.Errorf("%v, %v, %s: %v", c.rows, c.cols, c.kernel, got)
		}
		if got := modelAccepts(u, a, d); got != c.want {
			t.Errorf("the model of %v, %v, %s: %v", c.rows, c.cols, c.kernel, got)
		}
	}
}

// P10.1, P10.2: certificates of matrices without rows or columns.
func TestEmptyCertificates(t *testing.T) {
	for _, c := range []struct {
		a    [][]api.Num
		c    api.RankCert
		want bool
	}{
		{nil, api.RankCert{}, true},
		{make([][]api.Num, 3), api.RankCert{}, true},
		{nil, api.RankCert{Kernel: [][]api.Num{{}}}, false},
		{make([][]api.Num, 3), api.RankCert{Kernel: [][]api.Num{nil, nil}}, false},
		{of("0"), api.RankCert{Kernel: of("1")}, true},
		{of("0"), api.RankCert{Rows: []int{0}, Cols: []int{0}}, false},
		{of("1"), api.RankCert{Rows: []int{0}, Cols: []int{0}}, true},
		{of("1"), api.RankCert{Kernel: of("1")}, false},
		{of("0, 0"), api.RankCert{Kernel: of("1, 2; 3, 4")}, true},
	} {
		if got := accepts(t, api.Tower{}, c.a, c.c); got != c.want {
			t.Errorf("Accepts(%s, %v): %v", show(c.a), c.c, got)
		}
	}
}

// P10.1: the errors of certificates, in their order.
func TestErrorsOfCertificates(t *testing.T) {
	u := roots("2")
	a := of("1, 0 1, 3; 0 1, 2, 1")
	wrong := num("1 2 3")
	bad := api.Num{{Neg: true}}
	for i, c := range []struct {
		c    api.RankCert
		want error
	}{
		{api.RankCert{Rows: []int{0, 1}, Cols: []int{0, 2}, Kernel: of("0 -1, 1, 0")}, nil},
		{api.RankCert{Rows: []int{0}}, api.ErrShape},
		{api.RankCert{Cols: []int{0}}, api.ErrShape},
		{api.RankCert{Rows: []int{7, 7}, Cols: []int{0}}, api.ErrShape},
		{api.RankCert{Rows: []int{2}, Cols: []int{0}}, api.ErrIndex},
		{api.RankCert{Rows: []int{-1}, Cols: []int{0}}, api.ErrIndex},
		{api.RankCert{Rows: []int{1}, Cols: []int{3}}, api.ErrIndex},
		{api.RankCert{Rows: []int{1}, Cols: []int{-1 << 63}}, api.ErrIndex},
		{api.RankCert{Rows: []int{1, 0}, Cols: []int{0, 3}}, api.ErrIndex},
		{api.RankCert{Rows: []int{1, 0, 1 << 40}, Cols: []int{0, 1, 2}}, api.ErrIndex},
		{api.RankCert{Rows: []int{1, 0}, Cols: []int{0, 1}, Kernel: of("1")}, api.ErrOrder},
		{api.RankCert{Rows: []int{0, 1}, Cols: []int{1, 0}, Kernel: [][]api.Num{{bad}}}, api.ErrOrder},
		{api.RankCert{Rows: []int{0, 0}, Cols: []int{0, 1}}, api.ErrOrder},
		{api.RankCert{Rows: []int{0, 1}, Cols: []int{2, 2}}, api.ErrOrder},
		{api.RankCert{Rows: []int{0, 1, 0}, Cols: []int{0, 1, 2}}, api.ErrOrder},
		{api.RankCert{Kernel: of("1, 2")}, api.ErrShape},
		{api.RankCert{Kernel: of("1, 2, 3, 4")}, api.ErrShape},
		{api.RankCert{Kernel: [][]api.Num{nil}}, api.ErrShape},
		{api.RankCert{Kernel: [][]api.Num{{nil, nil, wrong}}}, api.ErrShape},
		{api.RankCert{Kernel: [][]api.Num{{nil, nil, num("1 2 3 4")}}}, api.ErrShape},
		{api.RankCert{Kernel: [][]api.Num{{nil, bad, wrong}}}, api.ErrForm},
		{api.RankCert{Kernel: [][]api.Num{{nil, wrong, bad}}}, api.ErrShape},
		{api.RankCert{Kernel: [][]api.Num{{nil, bad, nil}, {nil}}}, api.ErrForm},
		{api.RankCert{Kernel: [][]api.Num{{nil}, {nil, bad, nil}}}, api.ErrShape},
		{api.RankCert{Kernel: slices.Repeat(of("0, 0, 0"), 32)}, nil},
		{api.RankCert{Kernel: slices.Repeat(of("0, 0, 0"), 33)}, api.ErrLarge},
		{api.RankCert{Kernel: slices.Repeat(of("0, 0, 0"), 5000)}, api.ErrLarge},
		{api.RankCert{Kernel: append(slices.Repeat(of("0, 0, 0"), 50), of("0, 0")...)}, api.ErrShape},
		{api.RankCert{Kernel: append(slices.Repeat(of("0, 0, 0"), 50), []api.Num{bad, nil, nil})}, api.ErrForm},
		{api.RankCert{Rows: []int{0}, Kernel: slices.Repeat(of("0, 0, 0"), 50)}, api.ErrShape},
	} {
		if ok, err := matrix.Accepts(u, a, c.c); err != c.want || ok != (i == 0) {
			t.Errorf("%d: %v, %v, not %v", i, ok, err, c.want)
		}
	}
}
