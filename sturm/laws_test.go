package sturm_test

import (
	"math/rand"
	"slices"
	"testing"

	"linkwork/api"
	"linkwork/fraction"
	"linkwork/interval"
	"linkwork/poly"
)

// P6.2: Count is additive, and over -b..b it is All.
func TestAdditive(t *testing.T) {
	r := rand.New(rand.NewSource(6))
	for _, p := range cases(t, r, 150) {
		end := bound(t, p)
		low, whole := fraction.Neg(end), all(t, p)
		if n := count(t, p, low, end); n != whole {
			t.Fatalf("Count(%s) over -b..b: %d, not %d", show(p), n, whole)
		}
		list := places(t, r, p)
		for range 20 {
			x := []api.Rat{list[r.Intn(len(list))], list[r.Intn(len(list))], list[r.Intn(len(list))]}
			slices.SortFunc(x, fraction.Cmp)
			left, right, both := count(t, p, x[0], x[1]), count(t, p, x[1], x[2]), count(t, p, x[0], x[2])
			if left+right != both {
				t.Fatalf("Count(%s): %d and %d, but %d", show(p), left, right, both)
			}
		}
		sum := 0
		for i, x := range list[1:] {
			sum += count(t, p, list[i], x)
		}
		if n := count(t, p, list[0], list[len(list)-1]); n != sum || n != whole {
			t.Fatalf("Count(%s): %d in all, %d of the parts, %d roots", show(p), n, sum, whole)
		}
	}
}

// P6.2: beyond -b..b there are no roots.
func TestBeyond(t *testing.T) {
	r := rand.New(rand.NewSource(7))
	for _, p := range cases(t, r, 100) {
		end := bound(t, p)
		far := fraction.Mul(end, num("1000000007/3"))
		if count(t, p, end, far) != 0 || count(t, p, fraction.Neg(far), fraction.Neg(end)) != 0 {
			t.Fatalf("roots of %s beyond Bound", show(p))
		}
		if n := count(t, p, fraction.Neg(far), far); n != all(t, p) {
			t.Fatalf("%d roots of %s, not %d", n, show(p), all(t, p))
		}
	}
}

// checkRoots checks what is found of a polynomial with these rational roots, ascending, and no others.
func checkRoots(t *testing.T, p api.Poly, roots []api.Rat) {
	t.Helper()
	found := isolate(t, p)
	if n := all(t, p); n != len(roots) || len(found) != n {
		t.Fatalf("%s has %d roots, not %d: %s", show(p), len(roots), n, showAll(found))
	}
	for i, x := range found {
		for k, root := range roots {
			if interval.Contains(x, root) != (i == k) {
				t.Fatalf("the root %s of %s, and the interval %s", fraction.Text(root), show(p), interval.Text(x))
			}
		}
		if !isolating(t, p, x) {
			t.Fatalf("%s does not isolate %s", interval.Text(x), fraction.Text(roots[i]))
		}
	}
}

// distinct returns the different fractions of l, ascending.
func distinct(l []api.Rat) []api.Rat {
	l = slices.Clone(l)
	slices.SortFunc(l, fraction.Cmp)
	return slices.CompactFunc(l, sameRat)
}

// P6.3: products of (x - a) have as many roots as there are different a, and an interval around each.
func TestProducts(t *testing.T) {
	r := rand.New(rand.NewSource(8))
	for i := range 300 {
		p, roots := list("-5/7"), []api.Rat{}
		for range 1 + i%8 {
			a := drawRat(r, 1+i%50)
			for range 1 + r.Intn(3) {
				p = mul(t, p, linear(a))
			}
			roots = append(roots, a)
		}
		checkRoots(t, p, distinct(roots))
		// Factors without real roots change nothing.
		checkRoots(t, mul(t, p, list("1 0 1"), list("7 -1 1/3")), distinct(roots))
	}
}

// P6.3: as many roots as there can be; of many different sizes; very close to one another.
func TestManyRoots(t *testing.T) {
	p, halves, powers := list("1"), list("1"), list("3")
	var roots, middles, sizes []api.Rat
	for i := range 64 {
		roots = append(roots, fraction.Of(i+1))
		middles = append(middles, fraction.Sub(fraction.Of(i-32), num("1/2")))
		p, halves = mul(t, p, linear(roots[i])), mul(t, halves, linear(middles[i]))
	}
	checkRoots(t, p, roots)
	checkRoots(t, halves, middles)
	for i := range 20 {
		size, err := fraction.Power(num("3"), 3*i-30)
		if err != nil {
			t.Fatal(err)
		}
		sizes = append(sizes, size, fraction.Neg(size))
		powers = mul(t, powers, linear(size), linear(fraction.Neg(size)))
	}
	checkRoots(t, powers, distinct(sizes))
	close := []api.Rat{num("1/3")}
	for i := range 8 {
		step, err := fraction.Power(num("1/10"), 5*i+20)
		if err != nil {
			t.Fatal(err)
		}
		close = append(close, fraction.Add(close[0], step))
	}
	q := list("1")
	for _, a := range close {
		q = mul(t, q, linear(a))
	}
	checkRoots(t, q, distinct(close))
	checkRoots(t, power(t, linear(num("-2/3")), 64), []api.Rat{num("-2/3")})
}

// P6.4: the intervals of Isolate are isolating, ascending, have at most ends in common, and are as many as All says.
func TestApart(t *testing.T) {
	r := rand.New(rand.NewSource(9))
	for _, p := range cases(t, r, 150) {
		found := isolate(t, p)
		if n := all(t, p); len(found) != n {
			t.Fatalf("%s has %d roots, but %s", show(p), n, showAll(found))
		}
		for i, x := range found {
			if !isolating(t, p, x) {
				t.Fatalf("%s does not isolate a root of %s", interval.Text(x), show(p))
			}
			if i > 0 && (fraction.Cmp(found[i-1].Hi, x.Lo) > 0 || sameRange(found[i-1], x)) {
				t.Fatalf("%s has the intervals %s", show(p), showAll(found))
			}
		}
	}
}

// P6.4: Refine stays inside and keeps the root; it is as narrow as it has to be, and no narrower than half of that.
func TestInside(t *testing.T) {
	r := rand.New(rand.NewSource(10))
	for i, p := range cases(t, r, 60) {
		for k, x := range isolate(t, p) {
			before := x
			for _, bits := range []int{0, 1 + (i+k)%7, 20, 64, 255, 256} {
				got := refine(t, p, x, bits)
				checkRefined(t, p, before, got, bits)
				if again := refine(t, p, before, bits); !sameRange(again, got) {
					t.Fatalf("Refine(%s) in steps: %s, not %s", show(p), interval.Text(again), interval.Text(got))
				}
				before = got
			}
		}
	}
}

// checkRefined checks what Refine has made of an isolating interval.
func checkRefined(t *testing.T, p api.Poly, before, after api.Range, bits int) {
	t.Helper()
	step, width := fraction.Of(1), interval.Width(after)
	for range bits {
		step = fraction.Mul(step, num("1/2"))
	}
	if !interval.Inside(after, before) || !isolating(t, p, after) || fraction.Cmp(width, step) > 0 {
		t.Fatalf("Refine(%s, %s, %d): %s", show(p), interval.Text(before), bits, interval.Text(after))
	}
	narrow := fraction.Cmp(fraction.Add(width, width), step) <= 0
	if narrow && fraction.Sign(width) > 0 && !sameRange(before, after) {
		t.Fatalf("Refine(%s, %s, %d), too narrow: %s", show(p), interval.Text(before), bits, interval.Text(after))
	}
}

// P6.5: All is at most the degree, and of the same parity if there are no multiple roots.
func TestParity(t *testing.T) {
	r := rand.New(rand.NewSource(11))
	for _, p := range cases(t, r, 200) {
		n := all(t, p)
		if n > poly.Degree(p) {
			t.Fatalf("%s has %d roots", show(p), n)
		}
		f, err := poly.Free(p)
		if err != nil {
			t.Fatal(err)
		}
		if (poly.Degree(f)-n)%2 != 0 || all(t, f) != n {
			t.Fatalf("%s has %d roots, %s has %d", show(p), n, show(f), all(t, f))
		}
	}
}

// P6.1: great degrees, long coefficients and roots that are nearly multiple take little time.
func TestLong(t *testing.T) {
	r := rand.New(rand.NewSource(12))
	dense := make(api.Poly, 41)
	for i := range dense {
		dense[i] = fraction.Of(r.Intn(1<<16)*2 - 1<<16 + 1)
	}
	chebyshev := []api.Poly{list("1"), list("0 1")}
	for i := range 63 {
		next, err := poly.Sub(mul(t, list("0 2"), chebyshev[i+1]), chebyshev[i])
		if err != nil {
			t.Fatal(err)
		}
		chebyshev = append(chebyshev, next)
	}
	if n := all(t, chebyshev[64]); n != 64 {
		t.Errorf("Chebyshev's polynomial has %d roots", n)
	}
	// x^64 - 2 (100 x - 1)^2 has two roots near 1/100 that are closer than 100^-32 to one another.
	mignotte := append(list("-2 400 -20000"), make(api.Poly, 62)...)
	mignotte[64] = num("1")
	if n := count(t, mignotte, num("1/101"), num("1/99")); n != 2 {
		t.Errorf("%d roots near 1/100", n)
	}
	sparse := append(list("-1 -1"), make(api.Poly, 63)...)
	sparse[64] = num("1")
	long := mul(t, list("-3 0 0 340282366920938463463374607431768211457"), list("1/340282366920938463463374607431768211457 -1 7"))
	for _, p := range []api.Poly{dense, chebyshev[64], mignotte, sparse, long} {
		l := chain(t, p)
		if len(l) < 2 || poly.Degree(l[len(l)-1]) != 0 {
			t.Fatalf("Chain of the degree %d ends with %s", poly.Degree(p), show(l[len(l)-1]))
		}
		if changes(t, l, fraction.Neg(bound(t, p)))-changes(t, l, bound(t, p)) != all(t, p) {
			t.Fatalf("Chain does not count the roots of %s", show(p))
		}
		for _, x := range isolate(t, p)[:2] {
			checkRefined(t, p, x, refine(t, p, x, 128), 128)
		}
	}
}

// changes returns the changes of a chain at x.
func changes(t *testing.T, l []api.Poly, x api.Rat) int {
	t.Helper()
	n, before := 0, 0
	for _, c := range l {
		y, err := poly.Eval(c, x)
		if err != nil {
			t.Fatal(err)
		}
		if sign := fraction.Sign(y); sign != 0 {
			if sign*before < 0 {
				n++
			}
			before = sign
		}
	}
	return n
}
