package matrix_test

import (
	"math/rand"
	"slices"
	"testing"

	"linkwork/api"
	"linkwork/matrix"
	"linkwork/tower"
)

// outcome is what a call returns: all numbers of its results, all its ints (1 for true), its error.
type outcome struct {
	numbers [][]api.Num
	ints    []int
	err     error
}

// ofOne calls each function of one matrix; b and c are further arguments, perhaps with errors.
func ofOne(u api.Tower, a [][]api.Num, b []api.Num, c api.RankCert) map[string]outcome {
	n, ranked := matrix.Rank(u, a)
	solutions, solved := matrix.Kernel(u, a)
	x, only := matrix.Solve(u, a, b)
	d, found := matrix.Det(u, a)
	l, listed := matrix.Redundant(u, a)
	cert, certified := matrix.Certify(u, a)
	accepted, read := matrix.Accepts(u, a, c)
	is := 0
	if accepted {
		is = 1
	}
	return map[string]outcome{
		"Check":     {err: matrix.Check(u, a)},
		"Rank":      {nil, []int{n}, ranked},
		"Kernel":    {solutions, nil, solved},
		"Solve":     {[][]api.Num{x}, nil, only},
		"Det":       {[][]api.Num{{d}}, nil, found},
		"Redundant": {nil, l, listed},
		"Certify":   {cert.Kernel, append(slices.Clone(cert.Rows), cert.Cols...), certified},
		"Accepts":   {nil, []int{is}, read},
	}
}

// ofTwo calls Mul.
func ofTwo(u api.Tower, a, b [][]api.Num) map[string]outcome {
	c, err := matrix.Mul(u, a, b)
	return map[string]outcome{"Mul": {c, nil, err}}
}

// expectAll checks that all calls have an error and no other result.
func expectAll(t *testing.T, calls map[string]outcome, want error) {
	t.Helper()
	for name, o := range calls {
		if o.err != want {
			t.Fatalf("%s: %v, not %v", name, o.err, want)
		}
		for _, n := range o.ints {
			if n != 0 {
				t.Fatalf("%s: %v beside %v", name, o.ints, want)
			}
		}
		for _, row := range o.numbers {
			for _, x := range row {
				if len(x) > 0 {
					t.Fatalf("%s: %s beside %v", name, show(o.numbers), want)
				}
			}
		}
	}
}

// badRats returns fractions that are not valid.
func badRats() []api.Rat {
	return []api.Rat{
		{Neg: true},
		{Num: []uint32{1}},
		{Den: []uint32{1}},
		{Num: []uint32{0}, Den: []uint32{1}},
		{Num: []uint32{1, 0}, Den: []uint32{1}},
		{Num: []uint32{1}, Den: []uint32{0}},
		{Num: []uint32{6}, Den: []uint32{4}},
		{Neg: true, Num: []uint32{3}, Den: []uint32{3}},
	}
}

// badNumbers returns lists that are no numbers of a tower with one root, with their errors.
func badNumbers() map[api.Errno][]api.Num {
	bad := badRats()[0]
	all := map[api.Errno][]api.Num{
		api.ErrShape: {num("1 2 3"), num("0 0 0 0"), make(api.Num, 5), make(api.Num, 64), {bad, {}, {}}},
	}
	for _, x := range badRats() {
		all[api.ErrForm] = append(all[api.ErrForm], api.Num{x}, api.Num{{}, x})
	}
	return all
}

// badMatrices returns lists that are no matrices over a tower with one root, with their errors. Some
// have several ones.
func badMatrices() map[api.Errno][][][]api.Num {
	wrong, invalid := num("1 2 3"), api.Num{{Neg: true}}
	wide := make([]api.Num, 33)
	all := map[api.Errno][][][]api.Num{
		api.ErrLarge: {
			make([][]api.Num, 33), {wide}, {wide, {}}, slices.Repeat(of("1, 2"), 33), {slices.Repeat([]api.Num{wrong}, 33)},
			append(make([][]api.Num, 40), []api.Num{invalid}), {make([]api.Num, 5000)},
		},
		api.ErrShape: {
			of("1; 1, 2"), of("1, 2; 1"), {nil, {nil}}, {{nil}, nil}, {{nil}, wide}, {{invalid}, nil}, {{nil}, {nil}, {nil, invalid}},
			{{wrong, invalid}}, {{nil, wrong}, {invalid, nil}}, {{nil}, {wrong}, {invalid}},
		},
		api.ErrForm: {{{invalid, wrong}}, {{nil, invalid}, {wrong, nil}}, {{nil}, {invalid}, {wrong}}},
	}
	for want, numbers := range badNumbers() {
		for _, x := range numbers {
			all[want] = append(all[want], [][]api.Num{{x}}, [][]api.Num{{nil, num("0 1")}, {num("2"), x}})
		}
	}
	return all
}

// badTowers returns towers with their errors.
func badTowers() map[api.Errno]api.Tower {
	return map[api.Errno]api.Tower{
		api.ErrLarge: {Roots: make([]api.Num, 6)},
		api.ErrShape: roots("2", "3"),
		api.ErrForm:  {Roots: []api.Num{{badRats()[0]}}},
		api.ErrRange: roots("2", "1 -1"),
	}
}

// certificates returns certificates, with errors and without, and vectors for as many further arguments.
func certificates() []api.RankCert {
	return []api.RankCert{
		{},
		{Rows: []int{0}},
		{Rows: []int{-1}, Cols: []int{50}},
		{Kernel: [][]api.Num{{{badRats()[0]}}}},
	}
}

// P10.1: all functions return the errors of the tower first, whatever the other arguments are.
func TestTowersFirst(t *testing.T) {
	for want, u := range badTowers() {
		for _, c := range certificates() {
			expectAll(t, ofOne(u, nil, nil, c), want)
			expectAll(t, ofOne(u, of("1, 2; 3, 4"), vector("1 2 3"), c), want)
		}
		for _, matrices := range badMatrices() {
			for _, a := range matrices {
				expectAll(t, ofOne(u, a, []api.Num{{badRats()[0]}}, api.RankCert{}), want)
				expectAll(t, ofTwo(u, a, a), want)
				expectAll(t, ofTwo(u, nil, a), want)
			}
		}
	}
}

// P10.1: then those of the matrix, before those of the other arguments.
func TestMatricesNext(t *testing.T) {
	u := roots("2")
	for want, matrices := range badMatrices() {
		for _, a := range matrices {
			for _, c := range certificates() {
				expectAll(t, ofOne(u, a, nil, c), want)
				expectAll(t, ofOne(u, a, []api.Num{{badRats()[0]}}, c), want)
			}
			expectAll(t, ofTwo(u, a, nil), want)
			expectAll(t, ofTwo(u, a, of("1, 2; 3, 4")), want)
			for _, good := range [][][]api.Num{nil, of("1"), of("0 1, 2; 3, 4"), make([][]api.Num, 2)} {
				expectAll(t, ofTwo(u, good, a), want)
			}
			for _, others := range badMatrices() {
				for _, b := range others {
					expectAll(t, ofTwo(u, a, b), want)
				}
			}
		}
	}
}

// P10.1: the errors that follow.
func TestOtherErrors(t *testing.T) {
	u := roots("2")
	for want, numbers := range badNumbers() {
		for _, x := range numbers {
			for _, b := range [][]api.Num{{x}, {nil, x}, {x, nil, nil}, append(make([]api.Num, 100), x)} {
				for _, a := range [][][]api.Num{nil, of("1, 2; 2, 4"), of("1, 0; 0, 1")} {
					got, err := matrix.Solve(u, a, b)
					expectAll(t, map[string]outcome{"Solve": {[][]api.Num{got}, nil, err}}, want)
				}
			}
		}
	}
	for _, n := range []int{0, 1, 3, 40} {
		got, err := matrix.Solve(u, of("0, 0; 0, 0"), slices.Repeat(vector("1"), n))
		expectAll(t, map[string]outcome{"Solve": {[][]api.Num{got}, nil, err}}, api.ErrShape)
	}
	if _, err := matrix.Solve(u, nil, vector("0")); err != api.ErrShape {
		t.Errorf("Solve without rows: %v", err)
	}
	for _, a := range [][][]api.Num{of("1, 2"), of("1; 2"), of("0, 0, 0; 0, 0, 0"), make([][]api.Num, 1), make([][]api.Num, 32)} {
		d, err := matrix.Det(u, a)
		expectAll(t, map[string]outcome{"Det": {[][]api.Num{{d}}, nil, err}}, api.ErrShape)
	}
	for _, c := range []struct{ a, b [][]api.Num }{
		{of("1, 2"), of("1, 2")},
		{of("1, 2"), of("1; 2; 3")},
		{of("1, 2"), nil},
		{nil, of("1")},
		{nil, make([][]api.Num, 1)},
		{make([][]api.Num, 2), make([][]api.Num, 2)},
	} {
		expectAll(t, ofTwo(u, c.a, c.b), api.ErrShape)
	}
}

// P10.1: what is just within the limits is accepted.
func TestLimits(t *testing.T) {
	for _, u := range []api.Tower{{}, roots("2", "3 0", "5 0 0 0", "7 0 0 0 0 0 0 0", "11 0 0 0 0 0 0 0 0 0 0 0 0 0 0 0")} {
		for _, a := range [][][]api.Num{
			make([][]api.Num, 32), {make([]api.Num, 32)}, slices.Repeat(of("1"), 32), slices.Repeat([][]api.Num{make([]api.Num, 32)}, 32),
			{{make(api.Num, 1<<len(u.Roots))}},
		} {
			if err := matrix.Check(u, a); err != nil {
				t.Errorf("%d rows and %d columns: %v", len(a), width(a), err)
			}
		}
		one := make([][]api.Num, 32)
		for i := range one {
			one[i] = make([]api.Num, 32)
			one[i][31-i] = slices.Clone(num("-1"))
		}
		if x := det(t, u, one); cmp(u, x, num("1")) != 0 {
			t.Errorf("the determinant of the turned identity: %s", showNum(x))
		}
		if c := product(t, u, one, one); rank(t, u, c) != 32 || len(kernel(t, u, c)) > 0 || len(redundant(t, u, one)) > 0 {
			t.Errorf("the square of the turned identity: %s", show(c))
		}
		b := make([]api.Num, 32)
		for i := range b {
			b[i] = num("1 2 3 4 5 6 7 8 9 10 11 12 13 14 15 16")[i%4 : i%4+1]
		}
		x := must[[]api.Num](t)(matrix.Solve(u, one, b))
		expectValues(t, "turned", u, modelTimes(u, one, x), b)
	}
}

// scratch overwrites the memory of a number.
func scratch(x api.Num) {
	for i := range x {
		for _, words := range [][]uint32{x[i].Num, x[i].Den} {
			words = words[:cap(words)]
			for k := range words {
				words[k] = 0xdeadbeef
			}
		}
		x[i] = api.Rat{Neg: true}
	}
}

// copyNum returns x in memory of its own.
func copyNum(x api.Num) api.Num {
	c := make(api.Num, len(x))
	for i, y := range x {
		c[i] = api.Rat{Neg: y.Neg, Num: slices.Clone(y.Num), Den: slices.Clone(y.Den)}
	}
	return c
}

// copyMatrix returns a in memory of its own.
func copyMatrix(a [][]api.Num) [][]api.Num {
	c := make([][]api.Num, len(a))
	for i, row := range a {
		c[i] = make([]api.Num, len(row))
		for k, x := range row {
			c[i][k] = copyNum(x)
		}
	}
	return c
}

// copyTower returns u in memory of its own.
func copyTower(u api.Tower) api.Tower {
	return api.Tower{Roots: copyMatrix([][]api.Num{u.Roots})[0]}
}

// checkOwn checks that the results share no memory with the arguments, which are overwritten, nor with
// one another.
func checkOwn(t *testing.T, calls map[string]outcome, arguments ...[][]api.Num) {
	t.Helper()
	kept := map[string]outcome{}
	for name, o := range calls {
		kept[name] = outcome{copyMatrix(o.numbers), slices.Clone(o.ints), o.err}
	}
	for _, a := range arguments {
		for _, row := range a {
			for k := range row {
				scratch(row[k])
				row[k] = nil
			}
		}
	}
	for name, o := range calls {
		if !slices.Equal(o.ints, kept[name].ints) {
			t.Fatalf("%s shares memory", name)
		}
		for i, row := range o.numbers {
			for k, x := range row {
				if !sameNum(x, kept[name].numbers[i][k]) {
					t.Fatalf("%s shares memory: %s", name, show(kept[name].numbers))
				}
				scratch(x)
				row[k] = num("-9")
			}
		}
	}
}

// P10.1: arguments are not changed, and results share no memory with them nor with one another.
func TestMemory(t *testing.T) {
	r := rand.New(rand.NewSource(40))
	for _, s := range settings() {
		for i := range max(1, 24>>len(s.tower.Roots)) {
			n := 1 + i%4
			u, a := copyTower(s.tower), copyMatrix(draw(r, s, n, 1+r.Intn(4), 1+i*2))
			if i%3 == 0 {
				a = copyMatrix(draw(r, s, n, n, 20))
			}
			x := drawVector(r, s, width(a), 3)
			b := copyMatrix([][]api.Num{modelTimes(u, a, x)})
			c := certify(t, u, a)
			c.Kernel = copyMatrix(c.Kernel)
			back := copyMatrix(transposed(a))
			keptU, keptA, keptB, keptC := copyTower(u), copyMatrix(a), copyMatrix(b), copyMatrix(c.Kernel)
			keptRows, keptCols := slices.Clone(c.Rows), slices.Clone(c.Cols)
			one, two := ofOne(u, a, b[0], c), ofTwo(u, a, back)
			again := ofOne(u, a, b[0], c)
			if !sameVector(u.Roots, keptU.Roots) || !same(a, keptA) || !same(b, keptB) || !same(c.Kernel, keptC) || !same(back, transposed(keptA)) {
				t.Fatalf("an argument was changed: %s", show(keptA))
			}
			expectInts(t, "Rows", c.Rows, keptRows)
			expectInts(t, "Cols", c.Cols, keptCols)
			for name, o := range one {
				if o.err != again[name].err || !same(o.numbers, again[name].numbers) || !slices.Equal(o.ints, again[name].ints) {
					t.Fatalf("%s is not the same again", name)
				}
			}
			checkOwn(t, two)
			checkOwn(t, one, [][]api.Num{u.Roots}, a, b, c.Kernel, back)
		}
	}
}

// P10.1: a product with the matrix of ones in the diagonal is a copy.
func TestCopies(t *testing.T) {
	long := num("340282366920938463463374607431768211457/3")
	c := product(t, api.Tower{}, [][]api.Num{{long}}, of("1"))
	if !sameNum(c[0][0], long) || &c[0][0][0].Num[0] == &long[0].Num[0] || &c[0][0][0].Den[0] == &long[0].Den[0] {
		t.Errorf("Mul: %s", show(c))
	}
	x := must[[]api.Num](t)(matrix.Solve(api.Tower{}, of("1"), []api.Num{long}))
	if !sameNum(x[0], tower.Short(long)) || &x[0][0].Num[0] == &long[0].Num[0] {
		t.Errorf("Solve: %s", showVector(x))
	}
}
