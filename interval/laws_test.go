package interval_test

import (
	"math/rand"
	"testing"

	"linkwork/api"
	"linkwork/fraction"
	"linkwork/interval"
)

// members returns numbers of a: its ends, its middle, and drawn ones.
func members(r *rand.Rand, a api.Range) []api.Rat {
	all := []api.Rat{a.Lo, a.Hi, interval.Mid(a)}
	width := fraction.Sub(a.Hi, a.Lo)
	for range 3 {
		part := over(fraction.Of(r.Intn(1001)), fraction.Of(1000))
		all = append(all, fraction.Add(a.Lo, fraction.Mul(width, part)))
	}
	if holds(a, api.Rat{}) {
		all = append(all, api.Rat{})
	}
	return all
}

// P3.2: the results contain the results for all numbers, and their ends are attained at ends.
func TestContainment(t *testing.T) {
	r := rand.New(rand.NewSource(2))
	for i, p := range pairs() {
		if i%3 > 0 {
			continue
		}
		a, b := p[0], p[1]
		checkAll(t, r, "Add", interval.Add(a, b), a, b, fraction.Add)
		checkAll(t, r, "Sub", interval.Sub(a, b), a, b, fraction.Sub)
		checkAll(t, r, "Mul", interval.Mul(a, b), a, b, fraction.Mul)
		if q, err := interval.Div(a, b); err == nil {
			checkAll(t, r, "Div", q, a, b, over)
		}
	}
}

// checkAll checks that all contains what combine makes of numbers of a and b, and that ends of a and b attain its ends.
func checkAll(t *testing.T, r *rand.Rand, name string, all, a, b api.Range, combine func(x, y api.Rat) api.Rat) {
	t.Helper()
	low, high := false, false
	for i, x := range members(r, a) {
		for k, y := range members(r, b) {
			z := combine(x, y)
			if !holds(all, z) {
				t.Fatalf("%s of %s and %s: %s without %s", name, show(a), show(b), show(all), fraction.Text(z))
			}
			// The first two members are the ends.
			low = low || i < 2 && k < 2 && same(z, all.Lo)
			high = high || i < 2 && k < 2 && same(z, all.Hi)
		}
	}
	if !low || !high {
		t.Fatalf("%s of %s and %s: no ends attain those of %s", name, show(a), show(b), show(all))
	}
}

// P3.2: the same for the functions of one interval, and for sets.
func TestContainmentOfSets(t *testing.T) {
	r := rand.New(rand.NewSource(3))
	for _, p := range pairs()[:3000] {
		a, b := p[0], p[1]
		neg, hull := interval.Neg(a), interval.Hull(a, b)
		meet, err := interval.Meet(a, b)
		for _, x := range members(r, a) {
			if !holds(neg, fraction.Neg(x)) || !holds(hull, x) {
				t.Fatalf("%s in Neg or Hull of %s and %s", fraction.Text(x), show(a), show(b))
			}
			if holds(b, x) != (err == nil && holds(meet, x)) {
				t.Fatalf("%s in Meet of %s and %s", fraction.Text(x), show(a), show(b))
			}
		}
		for _, x := range members(r, b) {
			if !holds(hull, x) {
				t.Fatalf("%s in Hull of %s and %s", fraction.Text(x), show(a), show(b))
			}
		}
		if !same(neg.Lo, fraction.Neg(a.Hi)) || !same(neg.Hi, fraction.Neg(a.Lo)) {
			t.Fatalf("the ends of Neg(%s): %s", show(a), show(neg))
		}
	}
}

// within returns an interval inside of a.
func within(r *rand.Rand, a api.Range) api.Range {
	list := members(r, a)
	return between(list[r.Intn(len(list))], list[r.Intn(len(list))])
}

// P3.3: intervals inside of others give results inside.
func TestInclusion(t *testing.T) {
	r := rand.New(rand.NewSource(4))
	for _, p := range pairs()[:4000] {
		a, b := p[0], p[1]
		small, other := within(r, a), within(r, b)
		for name, f := range binary() {
			checkInside(t, name+" of "+show(small)+" and "+show(other), f(small, other), f(a, b))
		}
		for name, f := range unary() {
			if name == "Mid" || name == "Point" {
				// The middle of a part is not that of the whole, nor is its lower end.
				continue
			}
			checkInside(t, name+" of "+show(small), f(small), f(a))
		}
	}
}

// checkInside checks that the result for the smaller intervals is inside, if there is one for the greater ones.
func checkInside(t *testing.T, what string, small, great answer) {
	t.Helper()
	switch {
	case small.err == api.ErrInfeasible:
		// Parts need not meet where the whole does.
	case great.err == nil && small.err != nil:
		t.Fatalf("%s: %v, but none for the whole", what, small.err)
	case small.err == nil && great.err == api.ErrInfeasible:
		t.Fatalf("%s: %s, but none for the whole", what, show(small.span))
	case great.err == nil && !(holds(great.span, small.span.Lo) && holds(great.span, small.span.Hi)):
		t.Fatalf("%s: %s, which is not inside %s", what, show(small.span), show(great.span))
	case great.err == nil && !interval.Inside(small.span, great.span):
		t.Fatalf("%s: not Inside", what)
	}
}

// onGrid reports whether x is a multiple of 2^-bits.
func onGrid(x api.Rat, bits int) bool {
	grid, err := fraction.Grid(x, bits)
	return err == nil && same(grid, x)
}

// bitCounts returns numbers of bits, among them the least and the greatest one.
func bitCounts(i int) []int {
	return []int{0, 1, 2, i % 257, 255, 256}
}

// P3.1: the ends of Out are the nearest multiples of 2^-bits.
func TestOut(t *testing.T) {
	r := rand.New(rand.NewSource(5))
	list := append(spans(), smallSpans()...)
	for i := range 800 {
		list = append(list, drawSpan(r, 1+i%12))
	}
	for i, a := range list {
		for _, bits := range bitCounts(i) {
			out, err := interval.Out(a, bits)
			if err != nil || !sound(out) || !onGrid(out.Lo, bits) || !onGrid(out.Hi, bits) {
				t.Fatalf("Out(%s, %d): %s, %v", show(a), bits, show(out), err)
			}
			low, high := fraction.Sub(a.Lo, out.Lo), fraction.Sub(out.Hi, a.Hi)
			for _, far := range []api.Rat{low, high} {
				if fraction.Sign(far) < 0 || fraction.Cmp(far, unit(bits)) >= 0 {
					t.Fatalf("Out(%s, %d): %s", show(a), bits, show(out))
				}
			}
		}
	}
}

// rootCases returns intervals without numbers below 0: among them squares, and numbers just beside squares.
func rootCases() []api.Range {
	r := rand.New(rand.NewSource(6))
	step := unit(600)
	list := []api.Range{{}, span("0", "3"), span("2", "2"), span("4", "9"), span("1/4", "1/4"), span("1/9", "16/25")}
	roots := ends()
	for i := range 60 {
		roots = append(roots, draw(r, 1+i%9))
	}
	for _, x := range roots {
		square := fraction.Mul(x, x)
		above := fraction.Add(square, step)
		list = append(list, between(square, square), between(square, above), between(above, above))
		if fraction.Sign(x) == 0 {
			continue
		}
		below := fraction.Sub(square, step)
		if fraction.Sign(below) > 0 {
			list = append(list, between(below, square), between(below, below), between(below, above))
		}
		y := draw(r, 6)
		list = append(list, between(square, fraction.Abs(y)), between(fraction.Abs(x), fraction.Abs(y)))
	}
	return list
}

// P3.1 and P3.4: the ends of Root are the multiples of 2^-bits nearest to the roots of the ends.
func TestRootEnds(t *testing.T) {
	for i, a := range rootCases() {
		for _, bits := range bitCounts(i) {
			root, err := interval.Root(a, bits)
			if err != nil || !sound(root) || !onGrid(root.Lo, bits) || !onGrid(root.Hi, bits) || fraction.Sign(root.Lo) < 0 {
				t.Fatalf("Root(%s, %d): %s, %v", show(a), bits, show(root), err)
			}
			next := fraction.Add(root.Lo, unit(bits))
			if fraction.Cmp(fraction.Mul(root.Lo, root.Lo), a.Lo) > 0 || fraction.Cmp(fraction.Mul(next, next), a.Lo) <= 0 {
				t.Fatalf("the lower end of Root(%s, %d): %s", show(a), bits, show(root))
			}
			last := fraction.Sub(root.Hi, unit(bits))
			if fraction.Cmp(fraction.Mul(root.Hi, root.Hi), a.Hi) < 0 {
				t.Fatalf("the upper end of Root(%s, %d): %s", show(a), bits, show(root))
			}
			if fraction.Sign(last) >= 0 && fraction.Cmp(fraction.Mul(last, last), a.Hi) >= 0 {
				t.Fatalf("the upper end of Root(%s, %d): %s", show(a), bits, show(root))
			}
		}
	}
}

// P3.4: Root contains the root of every square that is in the interval.
func TestRootContains(t *testing.T) {
	r := rand.New(rand.NewSource(7))
	for i := range 2000 {
		x := fraction.Abs(draw(r, 1+i%8))
		square := fraction.Mul(x, x)
		low := fraction.Mul(square, over(fraction.Of(r.Intn(101)), fraction.Of(100)))
		a := api.Range{Lo: low, Hi: fraction.Add(square, fraction.Abs(draw(r, 1+i%5)))}
		if i%4 == 0 {
			a.Hi = square
		}
		for _, bits := range bitCounts(i) {
			root, err := interval.Root(a, bits)
			if err != nil || !holds(root, x) || !interval.Contains(root, x) {
				t.Fatalf("Root(%s, %d): %s without %s, %v", show(a), bits, show(root), fraction.Text(x), err)
			}
		}
	}
}

// P3.1: the root of an interval with numbers below 0.
func TestRootBelowZero(t *testing.T) {
	for _, a := range append(spans(), smallSpans()...) {
		for _, bits := range []int{0, 9, 256} {
			root, err := interval.Root(a, bits)
			if fraction.Sign(a.Lo) < 0 {
				expectError(t, "Root", root, err, api.ErrRange)
			} else if err != nil {
				t.Fatalf("Root(%s, %d): %v", show(a), bits, err)
			}
		}
	}
}
