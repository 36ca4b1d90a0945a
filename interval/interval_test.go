package interval_test

import (
	"math"
	"testing"

	"linkwork/api"
	"linkwork/fraction"
	"linkwork/interval"
)

// P3.1: the examples of the chapter.
func TestExamples(t *testing.T) {
	expect(t, "Mul", interval.Mul(span("-1", "2"), span("-3", "1")), span("-6", "3"))
	if q, err := interval.Div(span("1", "2"), span("2", "4")); err != nil || interval.Text(q) != "1/4..1" {
		t.Errorf("Div: %s, %v", show(q), err)
	}
	if o, err := interval.Out(span("1/3", "2/3"), 2); err != nil || interval.Text(o) != "1/4..3/4" {
		t.Errorf("Out: %s, %v", show(o), err)
	}
	if r, err := interval.Root(span("2", "2"), 3); err != nil || interval.Text(r) != "11/8..3/2" {
		t.Errorf("Root: %s, %v", show(r), err)
	}
}

// P3.1: Valid.
func TestValid(t *testing.T) {
	empty := api.Rat{Num: []uint32{}, Den: []uint32{}}
	for _, a := range append(spans(), api.Range{}, api.Range{Lo: empty, Hi: empty}, api.Range{Lo: empty, Hi: num("1")}) {
		if !interval.Valid(a) {
			t.Errorf("not valid: %s", show(a))
		}
	}
	for _, a := range invalid() {
		if interval.Valid(a) {
			t.Errorf("valid: %v", a)
		}
	}
	list := ends()
	for i, hi := range list {
		for _, lo := range list[i+1:] {
			if a := (api.Range{Lo: lo, Hi: hi}); interval.Valid(a) {
				t.Errorf("valid: %s", show(a))
			}
		}
	}
}

// P3.1: Make, and Point.
func TestMake(t *testing.T) {
	list := ends()
	for i, lo := range list {
		for k, hi := range list {
			a, err := interval.Make(lo, hi)
			if i > k {
				expectError(t, "Make", a, err, api.ErrRange)
				continue
			}
			if err != nil {
				t.Fatalf("Make of %s: %v", show(api.Range{Lo: lo, Hi: hi}), err)
			}
			expect(t, "Make", a, api.Range{Lo: lo, Hi: hi})
		}
		expect(t, "Point", interval.Point(lo), api.Range{Lo: lo, Hi: lo})
	}
}

// P3.1: fractions that are not valid count as 0.
func TestInvalidFractions(t *testing.T) {
	for _, x := range unsound() {
		expect(t, "Point", interval.Point(x), api.Range{})
		a, err := interval.Make(x, num("3"))
		if err != nil {
			t.Fatalf("Make(%v, 3): %v", x, err)
		}
		expect(t, "Make", a, span("0", "3"))
		if a, err = interval.Make(num("-3"), x); err != nil {
			t.Fatalf("Make(-3, %v): %v", x, err)
		}
		expect(t, "Make", a, span("-3", "0"))
		if a, err = interval.Make(x, x); err != nil {
			t.Fatalf("Make of %v twice: %v", x, err)
		}
		expect(t, "Make", a, api.Range{})
		a, err = interval.Make(x, num("-3"))
		expectError(t, "Make", a, err, api.ErrRange)
		a, err = interval.Make(num("3"), x)
		expectError(t, "Make", a, err, api.ErrRange)
		for _, s := range smallSpans() {
			if interval.Contains(s, x) != holds(s, api.Rat{}) {
				t.Errorf("Contains(%s, %v)", show(s), x)
			}
		}
	}
}

// P3.1: functions of one interval.
func TestOneInterval(t *testing.T) {
	for _, a := range spans() {
		expect(t, "Neg", interval.Neg(a), api.Range{Lo: fraction.Neg(a.Hi), Hi: fraction.Neg(a.Lo)})
		if w := interval.Width(a); !same(w, fraction.Sub(a.Hi, a.Lo)) {
			t.Fatalf("Width(%s): %v", show(a), w)
		}
		if m := interval.Mid(a); !same(fraction.Sub(m, a.Lo), fraction.Sub(a.Hi, m)) {
			t.Fatalf("Mid(%s): %v", show(a), m)
		}
		if s := interval.Text(a); s != show(a) {
			t.Fatalf("Text(%s): %s", show(a), s)
		}
		low, high := fraction.Sign(a.Lo), fraction.Sign(a.Hi)
		want, decided := 0, low == high
		if decided {
			want = low
		}
		if sign, ok := interval.Sign(a); sign != want || ok != decided {
			t.Fatalf("Sign(%s): %d, %v", show(a), sign, ok)
		}
	}
}

// P3.1: Sign, of intervals of all positions about 0.
func TestSign(t *testing.T) {
	for _, x := range []struct {
		lo, hi string
		sign   int
		ok     bool
	}{
		{"1", "2", 1, true}, {"1/9", "1/9", 1, true}, {"-2", "-1", -1, true}, {"-1/9", "-1/9", -1, true},
		{"0", "0", 0, true}, {"0", "1", 0, false}, {"-1", "0", 0, false}, {"-1", "1", 0, false},
		{"1", "0", 0, true}, {"2", "1", 0, true}, {"-1", "-2", 0, true},
	} {
		if sign, ok := interval.Sign(span(x.lo, x.hi)); sign != x.sign || ok != x.ok {
			t.Errorf("Sign(%s..%s): %d, %v", x.lo, x.hi, sign, ok)
		}
	}
}

// outermost returns the least interval that contains what combines the ends of a and b.
func outermost(a, b api.Range, combine func(x, y api.Rat) api.Rat) api.Range {
	first := combine(a.Lo, b.Lo)
	all := api.Range{Lo: first, Hi: first}
	for _, x := range []api.Rat{combine(a.Lo, b.Hi), combine(a.Hi, b.Lo), combine(a.Hi, b.Hi)} {
		all = api.Range{Lo: fraction.Min(all.Lo, x), Hi: fraction.Max(all.Hi, x)}
	}
	return all
}

// P3.1: sums, products and quotients, which are the outermost ones of the ends.
func TestArithmetic(t *testing.T) {
	for _, p := range pairs() {
		a, b := p[0], p[1]
		expect(t, "Add", interval.Add(a, b), outermost(a, b, fraction.Add))
		expect(t, "Sub", interval.Sub(a, b), outermost(a, b, fraction.Sub))
		expect(t, show(a)+" times "+show(b), interval.Mul(a, b), outermost(a, b, fraction.Mul))
		q, err := interval.Div(a, b)
		if holds(b, api.Rat{}) {
			expectError(t, "Div", q, err, api.ErrZero)
			continue
		}
		if err != nil {
			t.Fatalf("%s by %s: %v", show(a), show(b), err)
		}
		expect(t, show(a)+" by "+show(b), q, outermost(a, b, over))
	}
}

// P3.1: Hull, Meet and Inside.
func TestSets(t *testing.T) {
	for _, p := range pairs() {
		a, b := p[0], p[1]
		lows, highs := between(a.Lo, b.Lo), between(a.Hi, b.Hi)
		expect(t, "Hull", interval.Hull(a, b), api.Range{Lo: lows.Lo, Hi: highs.Hi})
		meet, err := interval.Meet(a, b)
		if both := (api.Range{Lo: lows.Hi, Hi: highs.Lo}); !sound(both) {
			expectError(t, "Meet", meet, err, api.ErrInfeasible)
		} else if expect(t, "Meet", meet, both); err != nil {
			t.Fatalf("%s meets %s: %v", show(a), show(b), err)
		}
		if interval.Inside(a, b) != (holds(b, a.Lo) && holds(b, a.Hi)) {
			t.Fatalf("Inside(%s, %s)", show(a), show(b))
		}
	}
}

// P3.1: Meet of intervals that only touch, or just do not.
func TestTouching(t *testing.T) {
	a, b := span("-1", "1/3"), span("1/3", "2")
	for _, p := range [][2]api.Range{{a, b}, {b, a}} {
		if meet, err := interval.Meet(p[0], p[1]); err != nil || !sameSpan(meet, span("1/3", "1/3")) {
			t.Errorf("Meet: %s, %v", show(meet), err)
		}
	}
	b.Lo = fraction.Add(b.Lo, unit(256))
	for _, p := range [][2]api.Range{{a, b}, {b, a}} {
		meet, err := interval.Meet(p[0], p[1])
		expectError(t, "Meet", meet, err, api.ErrInfeasible)
	}
}

// P3.1: Contains, at the ends, just within, just without and in the middle.
func TestContains(t *testing.T) {
	step := unit(400)
	for _, a := range spans() {
		list := []api.Rat{a.Lo, a.Hi, interval.Mid(a), {}, num("1"), num("-1")}
		for _, x := range []api.Rat{a.Lo, a.Hi} {
			list = append(list, fraction.Add(x, step), fraction.Sub(x, step))
		}
		for _, x := range list {
			if interval.Contains(a, x) != holds(a, x) {
				t.Fatalf("Contains(%s, %s)", show(a), fraction.Text(x))
			}
		}
		if !interval.Contains(a, a.Lo) || !interval.Contains(a, a.Hi) || interval.Contains(a, fraction.Add(a.Hi, step)) {
			t.Fatalf("the ends of %s", show(a))
		}
	}
}

// P3.1: an interval that is not valid counts as 0..0.
func TestInvalidAlone(t *testing.T) {
	for _, bad := range invalid() {
		for name, f := range unary() {
			if name == "Make" || name == "Point" {
				continue
			}
			got := f(bad)
			if got.err != nil {
				t.Fatalf("%s(%v): %v", name, bad, got.err)
			}
			expect(t, name, got.span, api.Range{})
		}
		if sign, ok := interval.Sign(bad); sign != 0 || !ok {
			t.Errorf("Sign(%v): %d, %v", bad, sign, ok)
		}
		if s := interval.Text(bad); s != "0..0" {
			t.Errorf("Text(%v): %s", bad, s)
		}
		for _, x := range []string{"-10", "-1", "0", "1", "7/3", "10"} {
			if interval.Contains(bad, num(x)) != (x == "0") {
				t.Errorf("Contains(%v, %s)", bad, x)
			}
		}
	}
}

// P3.1: an interval that is not valid counts as 0..0, on both sides.
func TestInvalidPairs(t *testing.T) {
	zero := api.Range{}
	for _, bad := range invalid() {
		for _, a := range append(smallSpans(), bad) {
			other := a
			if !sound(a) {
				other = zero
			}
			for name, f := range binary() {
				if got, want := f(bad, a), f(zero, other); got.err != want.err {
					t.Fatalf("%s(%v, %v): %v", name, bad, a, got.err)
				} else {
					expect(t, name, got.span, want.span)
				}
				if got, want := f(a, bad), f(other, zero); got.err != want.err {
					t.Fatalf("%s(%v, %v): %v", name, a, bad, got.err)
				} else {
					expect(t, name, got.span, want.span)
				}
			}
			if interval.Inside(a, bad) != sameSpan(other, zero) || interval.Inside(bad, a) != holds(other, api.Rat{}) {
				t.Errorf("Inside of %v and %v", bad, a)
			}
		}
		q, err := interval.Div(span("1", "2"), bad)
		expectError(t, "Div", q, err, api.ErrZero)
	}
}

// P3.1: Out and Root refuse other numbers of bits, whatever the interval is.
func TestBitsErrors(t *testing.T) {
	for _, a := range append(append(smallSpans(), invalid()...), api.Range{}) {
		for _, bits := range []int{-1, fraction.MaxBits + 1, 300, 1 << 40, math.MaxInt, math.MinInt} {
			got, err := interval.Out(a, bits)
			expectError(t, "Out", got, err, api.ErrRange)
			got, err = interval.Root(a, bits)
			expectError(t, "Root", got, err, api.ErrRange)
		}
	}
}

// P3.1: arguments are not changed.
func TestArgumentsStay(t *testing.T) {
	list := append(append(smallSpans(), invalid()...), spans()[100], spans()[400])
	for _, a := range list {
		before := cloned(a)
		for name, f := range unary() {
			if f(a); !sameSpan(a, before) {
				t.Fatalf("%s changed %v to %v", name, before, a)
			}
		}
		interval.Valid(a)
		interval.Sign(a)
		interval.Text(a)
		interval.Contains(a, a.Hi)
		for _, b := range list {
			other := cloned(b)
			for name, f := range binary() {
				if f(a, b); !sameSpan(a, before) || !sameSpan(b, other) {
					t.Fatalf("%s changed %v or %v to %v or %v", name, before, other, a, b)
				}
			}
			if interval.Inside(a, b); !sameSpan(a, before) || !sameSpan(b, other) {
				t.Fatalf("Inside changed %v or %v", before, other)
			}
		}
	}
}

// checkMemory checks that the ends of a result stay when the arguments are overwritten, and Hi when Lo is.
func checkMemory(t *testing.T, name string, got api.Range, arguments ...api.Range) {
	t.Helper()
	want := cloned(got)
	for _, a := range arguments {
		scratch(a.Lo)
		scratch(a.Hi)
	}
	if !sameSpan(got, want) {
		t.Fatalf("%s shares memory with an argument: %s", name, show(want))
	}
	if scratch(got.Lo); !same(got.Hi, want.Hi) {
		t.Fatalf("the ends of %s share memory: %s", name, show(want))
	}
}

// P3.1: results share no memory, neither with arguments nor with one another.
func TestMemory(t *testing.T) {
	list := append(smallSpans(), spans()[3], spans()[99], spans()[300], spans()[450])
	for _, x := range list {
		for name, f := range unary() {
			a := cloned(x)
			checkMemory(t, name, f(a).span, a)
		}
		for _, y := range list {
			for name, f := range binary() {
				a, b := cloned(x), cloned(y)
				checkMemory(t, name, f(a, b).span, a, b)
			}
		}
		for name, f := range binary() {
			a := cloned(x)
			checkMemory(t, name, f(a, a).span, a)
		}
	}
}
