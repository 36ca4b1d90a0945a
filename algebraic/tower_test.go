package algebraic_test

import (
	"math/rand"
	"testing"

	"linkwork/algebraic"
	"linkwork/api"
	"linkwork/fraction"
	"linkwork/tower"
)

// towerOf returns the tower of some numbers under roots.
func towerOf(under ...string) api.Tower {
	var t api.Tower
	for _, s := range under {
		t.Roots = append(t.Roots, list[api.Num](s))
	}
	return t
}

// towers returns towers of different levels, some of them with roots that are fractions, 0, or sums of others.
func towers() []api.Tower {
	return []api.Tower{
		{},
		towerOf("2"),
		towerOf("4"),
		towerOf("0"),
		towerOf("2/3"),
		towerOf("2", "3 0"),
		towerOf("2", "3 2"),
		towerOf("2", "2 0"),
		towerOf("2", "0 0"),
		towerOf("4", "1 1"),
		towerOf("2", "3 0", "6 0 0 0"),
		towerOf("5", "2 1/2", "1/3 0 1 0"),
		towerOf("2", "3 0", "5 2 0 1"),
		towerOf("2", "3 0", "5 0 0 0", "7 0 0 0 0 0 0 0"),
	}
}

// drawNum returns a number of a level.
func drawNum(r *rand.Rand, level, bits int) api.Num {
	a := make(api.Num, 1<<r.Intn(level+1))
	for i := range a {
		a[i] = drawRat(r, bits)
	}
	return a
}

// must returns a, or ends the test if there is an error.
func must[T any](t *testing.T) func(a T, err error) T {
	return func(a T, err error) T {
		t.Helper()
		if err != nil {
			t.Fatal(err)
		}
		return a
	}
}

// valueAt returns the value of p at x, computed in a tower.
func valueAt(t *testing.T, u api.Tower, p api.Poly, x api.Num) api.Num {
	t.Helper()
	num := must[api.Num](t)
	var sum api.Num
	for i := len(p) - 1; i >= 0; i-- {
		sum = num(tower.Add(u, num(tower.Mul(u, sum, x)), tower.Of(p[i])))
	}
	return sum
}

// modelMinimal follows the chapter: the coefficients are those of X^0, X^1, ..
func modelMinimal(t *testing.T, u api.Tower, x api.Num) api.Poly {
	t.Helper()
	num := must[api.Num](t)
	x = tower.Short(x)
	level := 0
	for 1<<level < len(x) {
		level++
	}
	p := []api.Num{num(tower.Neg(u, x)), tower.Of(fraction.Of(1))}
	for ; level > 0; level-- {
		half := 1 << (level - 1)
		a, b := make([]api.Num, len(p)), make([]api.Num, len(p))
		for i, c := range p {
			long := append(append(api.Num{}, c...), make(api.Num, 2*half-len(c))...)
			a[i], b[i] = long[:half:half], long[half:]
		}
		d := u.Roots[level-1]
		next := make([]api.Num, 2*len(p)-1)
		for i := range p {
			for k := range p {
				square := num(tower.Mul(u, num(tower.Mul(u, b[i], b[k])), d))
				difference := num(tower.Sub(u, num(tower.Mul(u, a[i], a[k])), square))
				next[i+k] = num(tower.Add(u, next[i+k], difference))
			}
		}
		p = next
	}
	var l api.Poly
	for _, c := range p {
		x, ok := tower.Rat(u, c)
		if !ok {
			t.Fatalf("no fraction: %s", showList(c))
		}
		l = append(l, x)
	}
	return l
}

// P7.1, P7.5: Minimal is what the chapter's steps lead to, monic, of the degree 2^j, and 0 at x.
func TestMinimal(t *testing.T) {
	r := rand.New(rand.NewSource(14))
	for _, u := range towers() {
		level := len(u.Roots)
		for i := range 12 {
			x := drawNum(r, level, 1+2*i)
			p := must[api.Poly](t)(algebraic.Minimal(u, x))
			if want := modelMinimal(t, u, x); !sameList(p, want) {
				t.Fatalf("Minimal of %s: %s, not %s", showList(x), showList(p), showList(want))
			}
			degree := max(1, len(tower.Short(x)))
			if len(p) != degree+1 || !sameRat(p[degree], rat("1")) {
				t.Fatalf("Minimal of %s: %s", showList(x), showList(p))
			}
			if y := valueAt(t, u, p, x); len(y) > 0 {
				t.Fatalf("Minimal of %s is %s there", showList(x), showList(y))
			}
		}
	}
	for _, x := range []struct {
		u       api.Tower
		x, want string
	}{
		{towerOf("2"), "", "[0 1]"},
		{towerOf("2"), "0 0", "[0 1]"},
		{towerOf("2"), "5/3 0", "[-5/3 1]"},
		{towerOf("2"), "1 1", "[-1 -2 1]"},
		{towerOf("4"), "0 1", "[-4 0 1]"},
		{towerOf("4"), "2 -1", "[0 -4 1]"},
		{towerOf("0"), "3 1", "[9 -6 1]"},
		{towerOf("2", "3 0"), "0 1 1 0", "[1 0 -10 0 1]"},
		{towerOf("2", "3 0"), "0 0 1 0", "[9 0 -6 0 1]"},
		{towerOf("2", "3 0"), "0 1 0 0", "[-2 0 1]"},
		{towerOf("2", "0 1"), "0 0 1 0", "[-2 0 0 0 1]"},
	} {
		p := must[api.Poly](t)(algebraic.Minimal(x.u, list[api.Num](x.x)))
		if showList(p) != x.want {
			t.Errorf("Minimal of %s: %s, not %s", x.x, showList(p), x.want)
		}
	}
}

// P7.5: numbers compare like those of the tower, and have the signs of polynomials that are found there.
func TestNumber(t *testing.T) {
	r := rand.New(rand.NewSource(15))
	for _, u := range towers() {
		level := len(u.Roots)
		var before api.Num
		for range 8 {
			x := drawNum(r, level, 4)
			a := must[api.Alg](t)(algebraic.Number(u, x))
			b := must[api.Alg](t)(algebraic.Number(u, before))
			if c, want := cmp(t, a, b), must[int](t)(tower.Cmp(u, x, before)); c != want {
				t.Fatalf("Cmp of %s and %s: %d, not %d", showList(x), showList(before), c, want)
			}
			checkNumber(t, r, u, x, a)
			before = x
		}
	}
}

// checkNumber checks that a is the number x of a tower, one of the roots of its Minimal.
func checkNumber(t *testing.T, r *rand.Rand, u api.Tower, x api.Num, a api.Alg) {
	t.Helper()
	same := 0
	for _, b := range roots(t, must[api.Poly](t)(algebraic.Minimal(u, x))) {
		if sameList(numbers(a), numbers(b)) {
			same++
		}
	}
	if same != 1 {
		t.Fatalf("Number of %s: %s, %d times", showList(x), show(a), same)
	}
	for range 3 {
		y, q := drawRat(r, 4), drawPoly(r, 4, 4)
		if c, want := cmpRat(t, a, y), must[int](t)(tower.Cmp(u, x, tower.Of(y))); c != want {
			t.Fatalf("CmpRat of %s and %s: %d, not %d", showList(x), fraction.Text(y), c, want)
		}
		if s, want := signAt(t, q, a), must[int](t)(tower.Sign(u, valueAt(t, u, q, x))); s != want {
			t.Fatalf("SignAt of %s at %s: %d, not %d", showList(q), showList(x), s, want)
		}
	}
	bits := r.Intn(65)
	if n, want := near(t, a, bits), must[api.Range](t)(tower.Enclose(u, x, bits)); !sameRange(n, want) {
		t.Fatalf("Near of %s for %d bits", showList(x), bits)
	}
}

// P7.5: the same number from different towers.
func TestSameNumbers(t *testing.T) {
	for _, x := range []struct {
		u    api.Tower
		x    string
		v    api.Tower
		y    string
		want int
	}{
		// The root of 5 + 2 root of 6, and the sum of the roots of 2 and 3.
		{towerOf("6", "5 2"), "0 0 1 0", towerOf("2", "3 0"), "0 1 1 0", 0},
		{towerOf("2"), "0 1", towerOf("8"), "0 1/2", 0},
		{towerOf("4"), "0 1", towerOf(), "2", 0},
		{towerOf("4"), "2 -1", towerOf(), "", 0},
		{towerOf("4"), "0 -1", towerOf(), "2", -1},
		{towerOf("0"), "7 5", towerOf(), "7", 0},
		{towerOf("2"), "0 -1", towerOf("2"), "0 1", -1},
		{towerOf("2", "3 0", "5 0 0 0"), "0 1 1 0 1 0 0 0", towerOf("29"), "0 1", -1},
		{towerOf("2", "3 0", "6 0 0 0"), "0 0 0 1 -1 0 0 0", towerOf(), "0", 0},
		// The roots of 1000001 and 1000000, a little apart.
		{towerOf("1000001"), "-1000 1", towerOf(), "1/2000", -1},
	} {
		a := must[api.Alg](t)(algebraic.Number(x.u, list[api.Num](x.x)))
		b := must[api.Alg](t)(algebraic.Number(x.v, list[api.Num](x.y)))
		if c, d := cmp(t, a, b), cmp(t, b, a); c != x.want || d != -x.want {
			t.Errorf("Cmp of %s and %s: %d and %d", x.x, x.y, c, d)
		}
	}
}

// P7.5: all levels, with 32 real roots and with none but two.
func TestHighest(t *testing.T) {
	sum := list[api.Num]("1/2 1 1 0 1 0 0 0 1 0 0 0 0 0 0 0 -1 0 0 0 0 0 0 0 0 0 0 0 0 0 0 0")
	five := towerOf("2", "3 0", "5 0 0 0", "7 0 0 0 0 0 0 0", "11 0 0 0 0 0 0 0 0 0 0 0 0 0 0 0")
	a := must[api.Alg](t)(algebraic.Number(five, sum))
	if len(a.P) != 33 || len(roots(t, a.P)) != 32 {
		t.Errorf("%d roots of a polynomial with %d coefficients", len(roots(t, a.P)), len(a.P))
	}
	if n, want := near(t, a, 64), must[api.Range](t)(tower.Enclose(five, sum, 64)); !sameRange(n, want) {
		t.Errorf("Near of the sum of five roots")
	}
	nested := towerOf("2", "0 1", "0 0 1 0", "0 0 0 0 1 0 0 0", "0 0 0 0 0 0 0 0 1 0 0 0 0 0 0 0")
	last := must[api.Num](t)(tower.Root(nested, 4))
	b := must[api.Alg](t)(algebraic.Number(nested, last))
	power := append(make(api.Poly, 32), rat("1"))
	power[0] = rat("-2")
	if !sameList(b.P, power) || len(roots(t, power)) != 2 || cmpRat(t, b, rat("0")) != 1 {
		t.Errorf("the root of the root .. of 2: %s", show(b))
	}
}

// P7.1: the errors of the tower come first, then those of the number.
func TestTowerErrors(t *testing.T) {
	bad := badRats()[0]
	for _, x := range []struct {
		u    api.Tower
		x    api.Num
		want error
	}{
		{api.Tower{Roots: make([]api.Num, 6)}, make(api.Num, 3), api.ErrLarge},
		{towerOf("2", "3"), make(api.Num, 3), api.ErrShape},
		{api.Tower{Roots: []api.Num{{bad}}}, make(api.Num, 3), api.ErrForm},
		{towerOf("-2"), make(api.Num, 3), api.ErrRange},
		{towerOf("2", "1 -1"), api.Num{bad}, api.ErrRange},
		{towerOf("2"), list[api.Num]("1 2 3"), api.ErrShape},
		{towerOf("2"), list[api.Num]("1 2 3 4"), api.ErrShape},
		{towerOf(), list[api.Num]("1 0"), api.ErrShape},
		{towerOf("2"), api.Num{bad, bad, bad}, api.ErrShape},
		{towerOf("2"), api.Num{bad}, api.ErrForm},
		{towerOf("2"), api.Num{rat("1"), bad}, api.ErrForm},
	} {
		if p, err := algebraic.Minimal(x.u, x.x); err != x.want || len(p) > 0 {
			t.Errorf("Minimal of %v in %v: %v, %v", x.x, x.u, p, err)
		}
		if a, err := algebraic.Number(x.u, x.x); err != x.want || !sameList(numbers(a), make([]api.Rat, 2)) {
			t.Errorf("Number of %v in %v: %v, %v", x.x, x.u, a, err)
		}
	}
}
