package algebraic_test

import (
	"math/rand"
	"slices"
	"testing"

	"linkwork/algebraic"
	"linkwork/api"
	"linkwork/fraction"
	"linkwork/poly"
)

// P7.2: Cmp is a total order.
func TestTotalOrder(t *testing.T) {
	r := rand.New(rand.NewSource(6))
	all := drawn(t, r, 12)
	slices.SortStableFunc(all, func(a, b api.Alg) int { return cmp(t, a, b) })
	equal := 0
	for i, a := range all {
		last := 0
		for k, b := range all[i:] {
			c := cmp(t, a, b)
			switch {
			case c > 0 || c > last:
				t.Fatalf("Cmp(%s, %s): %d after %d", show(a), show(b), c, last)
			case c != -cmp(t, b, a):
				t.Fatalf("Cmp(%s, %s): %d, and the same in reverse", show(a), show(b), c)
			case k == 0 && c != 0:
				t.Fatalf("%s is not equal to itself", show(a))
			case c == 0 && k > 0:
				equal++
			}
			last = c
		}
	}
	if equal < 50 {
		t.Errorf("only %d equal pairs", equal)
	}
}

// P7.2: the order agrees with CmpRat and with Near.
func TestOrders(t *testing.T) {
	r := rand.New(rand.NewSource(7))
	all := drawn(t, r, 12)
	for _, a := range all {
		for range 10 {
			b := all[r.Intn(len(all))]
			bits := r.Intn(65)
			c, x, y := cmp(t, a, b), near(t, a, bits), near(t, b, bits)
			if c == 0 && !sameRange(x, y) || c < 0 && fraction.Cmp(x.Lo, y.Lo) > 0 || c > 0 && fraction.Cmp(x.Hi, y.Hi) < 0 {
				t.Fatalf("Cmp(%s, %s): %d, and Near for %d bits", show(a), show(b), c, bits)
			}
			if cmpRat(t, a, x.Lo) < 0 || cmpRat(t, a, x.Hi) > 0 {
				t.Fatalf("CmpRat(%s, x) and Near for %d bits", show(a), bits)
			}
			z := drawRat(r, 8)
			of := algebraic.Of(z)
			if n := cmpRat(t, a, z); n != cmp(t, a, of) || n != -cmp(t, of, a) {
				t.Fatalf("CmpRat(%s, %s): %d, not so Cmp", show(a), fraction.Text(z), n)
			}
			if n, m := cmpRat(t, a, z), cmpRat(t, b, z); n < m && c != -1 || n > m && c != 1 {
				t.Fatalf("Cmp(%s, %s): %d, but %s is between", show(a), show(b), c, fraction.Text(z))
			}
		}
	}
}

// P7.2: the numbers of Roots are ascending, and products have all of them.
func TestAscending(t *testing.T) {
	r := rand.New(rand.NewSource(8))
	for _, p := range edges() {
		q := drawPoly(r, 6, 9)
		product := roots(t, mul(t, p, q))
		for i, a := range product {
			if i > 0 && cmp(t, product[i-1], a) != -1 {
				t.Fatalf("Roots of %s and %s, root %d", showList(p), showList(q), i)
			}
		}
		for _, b := range append(roots(t, p), roots(t, q)...) {
			if !slices.ContainsFunc(product, func(a api.Alg) bool { return cmp(t, a, b) == 0 }) {
				t.Fatalf("Roots of %s and %s: not %s", showList(p), showList(q), show(b))
			}
		}
	}
}

// P7.3: signs of products and sums.
func TestSigns(t *testing.T) {
	r := rand.New(rand.NewSource(9))
	all := edges()
	for _, a := range drawn(t, r, 20) {
		p, q := all[r.Intn(len(all))], drawPoly(r, 5, 8)
		x, y := signAt(t, p, a), signAt(t, q, a)
		if s := signAt(t, mul(t, p, q), a); s != x*y {
			t.Fatalf("SignAt of %s times %s at %s: %d", showList(p), showList(q), show(a), s)
		}
		sum, err := poly.Add(p, q)
		if err != nil {
			t.Fatal(err)
		}
		if s := signAt(t, sum, a); x*y >= 0 && s != max(x, y, -x, -y)*(x+y)/max(1, x+y, -x-y) {
			t.Fatalf("SignAt of %s plus %s at %s: %d", showList(p), showList(q), show(a), s)
		}
		negative, err := poly.Scale(q, rat("-2/7"))
		if err != nil {
			t.Fatal(err)
		}
		if s := signAt(t, negative, a); s != -y {
			t.Fatalf("SignAt of %s at %s: %d, not %d", showList(negative), show(a), s, -y)
		}
	}
}

// P7.3: a's own polynomial and its multiples are 0 at a, and polynomials that are nearly so are not.
func TestOwnPolynomial(t *testing.T) {
	r := rand.New(rand.NewSource(10))
	for _, a := range drawn(t, r, 20) {
		q := drawPoly(r, 5, 8)
		for _, p := range []api.Poly{a.P, mul(t, a.P, q), mul(t, q, a.P, a.P), nil} {
			if s := signAt(t, p, a); s != 0 {
				t.Fatalf("SignAt(%s, %s): %d", showList(p), show(a), s)
			}
		}
		for _, sign := range []string{"1", "-1"} {
			tiny := fraction.Mul(unit(400), rat(sign))
			p, err := poly.Add(mul(t, a.P, q), api.Poly{tiny})
			if err != nil {
				t.Fatal(err)
			}
			if s := signAt(t, p, a); s != fraction.Sign(tiny) {
				t.Fatalf("SignAt of %s plus %s 2^-400 at %s: %d", showList(mul(t, a.P, q)), sign, show(a), s)
			}
		}
	}
}

// P7.3: one side of each linear polynomial is that of CmpRat.
func TestLinearSigns(t *testing.T) {
	r := rand.New(rand.NewSource(11))
	for _, a := range drawn(t, r, 20) {
		x := drawRat(r, 10)
		if s := signAt(t, linear(x), a); s != cmpRat(t, a, x) {
			t.Fatalf("SignAt of x - %s at %s: %d", fraction.Text(x), show(a), s)
		}
	}
}

// P7.4: Between is strictly between, and the least of those of the greatest power.
func TestBetweenLeast(t *testing.T) {
	r := rand.New(rand.NewSource(12))
	all := drawn(t, r, 15)
	for _, a := range all {
		for range 4 {
			b := all[r.Intn(len(all))]
			switch cmp(t, a, b) {
			case 0:
				if _, err := algebraic.Between(a, b); err != api.ErrRange {
					t.Fatalf("Between(%s, %s): %v", show(a), show(b), err)
				}
				continue
			case 1:
				a, b = b, a
			}
			x, err := algebraic.Between(a, b)
			if err == api.ErrLarge {
				// Nothing of 64 bits either.
				checkNothing(t, a, b, 64)
				continue
			}
			k := 0
			for ; !isMultiple(t, x, k); k++ {
				checkNothing(t, a, b, k)
			}
			if err != nil || cmpRat(t, a, x) != -1 || cmpRat(t, b, x) != 1 || cmpRat(t, a, fraction.Sub(x, unit(k))) < 0 {
				t.Fatalf("Between(%s, %s): %s, %v", show(a), show(b), fraction.Text(x), err)
			}
		}
	}
}

// isMultiple reports whether x is a multiple of 2^-k.
func isMultiple(t *testing.T, x api.Rat, k int) bool {
	t.Helper()
	below, err := fraction.Grid(x, k)
	if err != nil {
		t.Fatalf("no multiple of 2^-%d: %s", k, fraction.Text(x))
	}
	return sameRat(below, x)
}

// checkNothing checks that no multiple of 2^-k is strictly between a and b.
func checkNothing(t *testing.T, a, b api.Alg, k int) {
	t.Helper()
	next := fraction.Add(near(t, a, k).Lo, unit(k))
	if cmpRat(t, b, next) > 0 {
		t.Fatalf("between %s and %s is %s", show(a), show(b), fraction.Text(next))
	}
}

// hard returns numbers that are very close to one another, ascending.
func hard(t *testing.T) [][]api.Alg {
	t.Helper()
	of := func(n int) api.Rat { return fraction.Of(n) }
	const c = 1<<40 + 1
	// c x - 1 + x^n has a root that is about c^-(n+1) below 1/c.
	below := func(n int) api.Alg {
		p := make(api.Poly, n+1)
		p[0], p[1], p[n] = of(-1), of(c), of(1)
		l := roots(t, p)
		return l[len(l)-1]
	}
	// x^n - 2 (d x - 1)^2 has two roots beside 1/d.
	const d = 6561
	pair := func(n int) []api.Alg {
		p := make(api.Poly, n+1)
		p[0], p[1], p[2], p[n] = of(-2), of(4*d), of(-2*d*d), of(1)
		l := roots(t, p)
		for i, a := range l {
			if cmpRat(t, a, unit(12)) < 0 && cmpRat(t, a, unit(13)) > 0 {
				return l[i : i+2]
			}
		}
		t.Fatalf("no roots beside %d", d)
		return nil
	}
	inverse := func(n int) api.Alg {
		x, err := fraction.Make(1, n)
		if err != nil {
			t.Fatal(err)
		}
		return algebraic.Of(x)
	}
	few, many := pair(20), pair(44)
	return [][]api.Alg{
		{below(12), below(13), below(40), below(41), inverse(c)},
		{few[0], many[0], inverse(d), many[1], few[1]},
	}
}

// P7.2, P7.3, P7.4: numbers that are closer than 2^-256.
func TestHard(t *testing.T) {
	for _, l := range hard(t) {
		for i, a := range l {
			for k, b := range l {
				want := max(-1, min(1, i-k))
				if c := cmp(t, a, b); c != want {
					t.Errorf("Cmp of the close numbers %d and %d: %d", i, k, c)
				}
				if _, err := algebraic.Between(a, b); i < k && err != api.ErrLarge || i >= k && err != api.ErrRange {
					t.Errorf("Between of the close numbers %d and %d: %v", i, k, err)
				}
				// Inside of b's interval the sign of b's polynomial changes at b alone.
				inside := cmpRat(t, a, b.R.Lo) > 0 && cmpRat(t, a, b.R.Hi) < 0
				before := signAt(t, b.P, algebraic.Of(b.R.Lo))
				if got := signAt(t, b.P, a); inside && got != -want*before {
					t.Errorf("SignAt of the polynomial of %d at %d: %d", k, i, got)
				}
			}
			checkNear(t, a, 64, near(t, a, 64))
		}
	}
}

// P7.1: polynomials of the greatest degree, and numbers in very long intervals.
func TestGreat(t *testing.T) {
	r := rand.New(rand.NewSource(13))
	p, q := make(api.Poly, 65), make(api.Poly, 65)
	for i := range p {
		p[i], q[i] = fraction.Of(r.Intn(1<<31)-1<<30), fraction.Of(r.Intn(1<<31)-1<<30)
	}
	p[64], q[64] = rat("1000000007"), rat("-998244353")
	all := append(roots(t, p), roots(t, q)...)
	if len(all) < 3 {
		t.Fatalf("%d roots", len(all))
	}
	for i, a := range all {
		for k, b := range all {
			x, y := near(t, a, 64), near(t, b, 64)
			if c := cmp(t, a, b); i == k && c != 0 || i != k && c != fraction.Cmp(x.Lo, y.Lo) {
				t.Errorf("Cmp of the numbers %d and %d: %d", i, k, c)
			}
		}
		if s := signAt(t, p, a); (s == 0) != (i < len(roots(t, p))) {
			t.Errorf("SignAt at %d: %d", i, s)
		}
	}
	far := fraction.Of(1)
	for range 1000 {
		far = fraction.Mul(far, rat("1000000007/3"))
	}
	a := api.Alg{P: list[api.Poly]("-2 0 0 1"), R: api.Range{Lo: fraction.Neg(far), Hi: far}}
	b := number("-2 0 0 1", "0..4")
	if cmp(t, a, b) != 0 || cmp(t, b, a) != 0 || !sameRange(near(t, a, 64), near(t, b, 64)) {
		t.Errorf("the interval is too long")
	}
	if signAt(t, list[api.Poly]("-5/4 1"), a) != 1 || cmpRat(t, a, far) != -1 || cmpRat(t, a, fraction.Neg(far)) != 1 {
		t.Errorf("the interval is too long")
	}
}
