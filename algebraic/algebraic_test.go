package algebraic_test

import (
	"math/rand"
	"slices"
	"testing"

	"linkwork/algebraic"
	"linkwork/api"
	"linkwork/fraction"
	"linkwork/interval"
	"linkwork/poly"
	"linkwork/sturm"
	"linkwork/tower"
)

// P7.1: the examples of the chapter.
func TestExamples(t *testing.T) {
	two := roots(t, list[api.Poly]("-2 0 1"))[1]
	if show(two) != "[-2 0 1] 0..4" {
		t.Errorf("the root of 2: %s", show(two))
	}
	if cmpRat(t, two, rat("7/5")) != 1 {
		t.Errorf("the root of 2 is not greater than 7/5")
	}
	if r := near(t, two, 1); interval.Text(r) != "1..3/2" {
		t.Errorf("Near for 1 bit: %s", interval.Text(r))
	}
	u := api.Tower{Roots: []api.Num{list[api.Num]("2")}}
	if p, err := algebraic.Minimal(u, list[api.Num]("1 1")); err != nil || showList(p) != "[-1 -2 1]" {
		t.Errorf("Minimal of 1 + s: %s, %v", showList(p), err)
	}
	three := roots(t, list[api.Poly]("-3 0 1"))[1]
	if x := between(t, two, three); fraction.Text(x) != "3/2" {
		t.Errorf("between the roots of 2 and 3: %s", fraction.Text(x))
	}
}

// P7.1: what is a number, and the first thing that is wrong with what is none.
func TestCheck(t *testing.T) {
	for _, x := range []struct {
		p, r string
		want error
	}{
		{"-2 0 1", "0..4", nil},
		{"-2 0 1", "-4..0", nil},
		{"2 0 -1", "7/5..3/2", nil},
		{"-1/2 1", "1/2..1/2", nil},
		{"-1/2 1", "-1000000000000000000000000000000..1000000000000000000000000000000", nil},
		{"0 1", "0..0", nil},
		{"0 -1 0 1", "0..0", nil},
		{"0 -1 0 1", "-1/2..1/2", nil},
		{"1 0 -3 0 3 0 -1", "0..0", api.ErrForm},
		// The polynomial 0, and one that is not accepted.
		{"", "0..0", api.ErrZero},
		{"1 0", "0..0", api.ErrZero},
		{"0", "0..0", api.ErrZero},
		// Multiple roots, even if they are not real, or not in the interval, or the interval is bad.
		{"1 -2 1", "0..2", api.ErrForm},
		{"1 -2 1", "1..1", api.ErrForm},
		{"0 0 1", "0..0", api.ErrForm},
		{"-3 1 -6 2 -3 1", "2..4", api.ErrForm},
		{"-2 5 -4 1", "3/2..3", api.ErrForm},
		{"1 -2 1", "2..0", api.ErrForm},
		// Intervals that are none, or isolate no root.
		{"-2 0 1", "2..0", api.ErrCert},
		{"-2 0 1", "0..0", api.ErrCert},
		{"-2 0 1", "-2..2", api.ErrCert},
		{"-2 0 1", "2..4", api.ErrCert},
		{"-2 0 1", "100000000000000000000..200000000000000000000", api.ErrCert},
		{"0 -1 0 1", "0..1/2", api.ErrCert},
		{"0 -1 0 1", "-1/2..1", api.ErrCert},
		{"0 -1 0 1", "1/2..1/2", api.ErrCert},
		{"0 -1 0 1", "-2..2", api.ErrCert},
		{"1 0 1", "-1..1", api.ErrCert},
		{"7", "-1..1", api.ErrCert},
		{"7", "0..0", api.ErrCert},
	} {
		if err := algebraic.Check(number(x.p, x.r)); err != x.want {
			t.Errorf("Check of [%s] %s: %v, not %v", x.p, x.r, err, x.want)
		}
	}
}

// P7.1: fractions as numbers.
func TestOf(t *testing.T) {
	for _, s := range []string{"0", "1", "-1", "2/3", "-1000000000000000000007/3"} {
		a := algebraic.Of(rat(s))
		want := api.Alg{P: linear(rat(s)), R: api.Range{Lo: rat(s), Hi: rat(s)}}
		if !sameList(numbers(a), numbers(want)) || algebraic.Check(a) != nil || cmpRat(t, a, rat(s)) != 0 {
			t.Errorf("Of(%s): %s", s, show(a))
		}
	}
	for _, bad := range badRats() {
		if a := algebraic.Of(bad); !sameList(numbers(a), numbers(number("0 1", "0..0"))) {
			t.Errorf("Of(%v): %s", bad, show(a))
		}
	}
}

// P7.1: Roots has the intervals of Isolate of the polynomial itself, and the polynomial without multiple roots.
func TestRoots(t *testing.T) {
	r := rand.New(rand.NewSource(1))
	for _, p := range edges() {
		for _, q := range []api.Poly{p, mul(t, p, p), mul(t, p, linear(drawRat(r, 3)), drawPoly(r, 3, 6))} {
			free, err := poly.Free(q)
			if err != nil {
				t.Fatal(err)
			}
			spans, err := sturm.Isolate(q)
			if err != nil {
				t.Fatal(err)
			}
			found := roots(t, q)
			if len(found) != len(spans) {
				t.Fatalf("Roots(%s): %d, not %d", showList(q), len(found), len(spans))
			}
			for i, a := range found {
				if !sameList(a.P, free) || !sameRange(a.R, spans[i]) || algebraic.Check(a) != nil {
					t.Fatalf("Roots(%s), root %d: %s", showList(q), i, show(a))
				}
			}
		}
	}
	for p, want := range map[string][]string{
		"7":          nil,
		"1 0 1":      nil,
		"0 0 1":      {"[0 1] -2..2"},
		"9 -6 1":     {"[-3 1] -16..16"},
		"0 -1/2 1/2": {"[0 -1 1] 0..0", "[0 -1 1] 1..1"},
		"-4 0 2":     {"[-2 0 1] -4..0", "[-2 0 1] 0..4"},
	} {
		var texts []string
		for _, a := range roots(t, list[api.Poly](p)) {
			texts = append(texts, show(a))
		}
		if !slices.Equal(texts, want) {
			t.Errorf("Roots of %s: %q, not %q", p, texts, want)
		}
	}
	for p, want := range map[string]error{"": api.ErrZero, "0": api.ErrZero, "1 0": api.ErrZero} {
		if l, err := algebraic.Roots(list[api.Poly](p)); err != want || len(l) > 0 {
			t.Errorf("Roots of %s: %v, %v", p, l, err)
		}
	}
}

// P7.1: Cmp, compared with the numbers of roots below.
func TestCmp(t *testing.T) {
	r := rand.New(rand.NewSource(2))
	all := drawn(t, r, 40)
	for _, a := range all {
		for range 6 {
			b := all[r.Intn(len(all))]
			if c, want := cmp(t, a, b), modelCmp(t, a, b); c != want {
				t.Fatalf("Cmp(%s, %s): %d, not %d", show(a), show(b), c, want)
			}
		}
	}
	for _, x := range []struct {
		a, b api.Alg
		want int
	}{
		{number("-2 0 1", "0..4"), number("-3 0 1", "0..4"), -1},
		{number("-2 0 1", "-4..0"), number("-3 0 1", "-4..0"), 1},
		{number("-2 0 1", "0..4"), number("6 0 -5 0 1", "1..3/2"), 0},
		{number("-2 0 1", "0..4"), number("0 -2 0 1", "1/2..3"), 0},
		{number("0 -2 0 1", "-1..1"), number("0 1", "-1..2"), 0},
		// Points, beside and in intervals, and at their ends.
		{number("-2 0 1", "1..2"), number("-1 1", "1..1"), 1},
		{number("-2 0 1", "1..2"), number("-2 1", "2..2"), -1},
		{number("-1 1", "1..1"), number("-2 0 1", "1..2"), -1},
		{number("-2 1", "2..2"), number("-2 0 1", "1..2"), 1},
		{number("-4 0 1", "2..2"), number("-2 1", "0..3"), 0},
		{number("-2 1", "0..3"), number("-4 0 1", "2..2"), 0},
		{number("-2 1", "2..2"), number("-4 0 1", "2..2"), 0},
		{number("-1 1", "0..2"), number("-2 0 1", "1..2"), -1},
		{number("-2 1", "0..3"), number("-2 0 1", "1..2"), 1},
		{number("-2 0 1", "1..2"), number("-1 1", "0..2"), 1},
		{number("-2 0 1", "1..2"), number("-2 1", "0..3"), -1},
		// Intervals that have an end in common, or a part, in which neither or only one of the roots is.
		{number("-2 0 1", "1..2"), number("-3 0 1", "3/2..2"), -1},
		{number("-2 0 1", "1..3/2"), number("-3 0 1", "3/2..2"), -1},
		{number("-3 0 1", "3/2..2"), number("-2 0 1", "1..3/2"), 1},
		{number("-2 0 1", "1..19/10"), number("-5 0 1", "9/5..3"), -1},
		{number("-5 0 1", "9/5..3"), number("-2 0 1", "1..19/10"), 1},
		{number("-3 0 1", "1..19/10"), number("-5 0 1", "3/2..3"), -1},
		{number("-5 0 1", "3/2..3"), number("-3 0 1", "1..19/10"), 1},
		{number("-2 0 1", "1..19/10"), number("-3 0 1", "3/2..3"), -1},
		{number("-3 0 1", "3/2..3"), number("-2 0 1", "1..19/10"), 1},
		{number("-3 0 1", "17/10..9/5"), number("-2 0 1", "0..100"), 1},
		{number("-2 0 1", "0..100"), number("-3 0 1", "17/10..9/5"), -1},
		{number("-2 0 1", "0..100"), number("-2 0 1", "7/5..3/2"), 0},
		// One of the polynomials has roots in both parts.
		{number("-2 0 1", "-4..0"), number("0 -2 0 1", "-1..1"), -1},
	} {
		if c := cmp(t, x.a, x.b); c != x.want {
			t.Errorf("Cmp(%s, %s): %d, not %d", show(x.a), show(x.b), c, x.want)
		}
	}
}

// P7.1: CmpRat, at the ends of intervals, at the root and beside it, and far away.
func TestCmpRat(t *testing.T) {
	r := rand.New(rand.NewSource(3))
	for _, a := range drawn(t, r, 30) {
		tiny := rat("1/340282366920938463463374607431768211456")
		for _, x := range []api.Rat{
			{}, a.R.Lo, a.R.Hi, interval.Mid(a.R), fraction.Add(a.R.Hi, tiny), fraction.Sub(a.R.Lo, tiny),
			rat("-100000000000000000000000000000000000000000"), rat("100000000000000000000000000000000000000000"),
			rat("665857/470832"), drawRat(r, 20), drawRat(r, 3),
		} {
			if c, want := cmpRat(t, a, x), modelSign(linear(x), a); c != want {
				t.Fatalf("CmpRat(%s, %s): %d, not %d", show(a), fraction.Text(x), c, want)
			}
		}
		for _, bad := range badRats() {
			if c := cmpRat(t, a, bad); c != cmpRat(t, a, api.Rat{}) {
				t.Fatalf("CmpRat(%s, %v): %d", show(a), bad, c)
			}
		}
	}
}

// P7.1: SignAt, compared with Tarski's theorem.
func TestSignAt(t *testing.T) {
	r := rand.New(rand.NewSource(4))
	all := edges()
	for _, a := range drawn(t, r, 30) {
		for range 4 {
			p := all[r.Intn(len(all))]
			if r.Intn(2) == 0 {
				p = drawPoly(r, 6, 10)
			}
			want := 0
			if !modelRoot(t, p, a) {
				want = modelSign(p, a)
			}
			if s := signAt(t, p, a); s != want {
				t.Fatalf("SignAt(%s, %s): %d, not %d", showList(p), show(a), s, want)
			}
		}
	}
	two := number("-2 0 1", "0..4")
	for p, want := range map[string]int{
		"": 0, "-7": -1, "1/1000000000000": 1, "-2 0 1": 0, "0 -2 0 1": 0, "-3 2": -1, "-4 3": 1, "2 0 -1": 0, "1 0 -1": -1,
		// (x - 1)(x - 2) and its negative; beside roots of higher order
		"2 -3 1": -1, "-2 3 -1": 1, "27/8 -27/4 9/2 -1": 1, "9/4 -3 1": 1,
	} {
		if s := signAt(t, list[api.Poly](p), two); s != want {
			t.Errorf("SignAt of %s: %d, not %d", p, s, want)
		}
	}
}

// checkNear checks that r is what Near says of a.
func checkNear(t *testing.T, a api.Alg, bits int, r api.Range) {
	t.Helper()
	width := unit(bits)
	for _, x := range []api.Rat{r.Lo, r.Hi} {
		if below, err := fraction.Grid(x, bits); err != nil || !sameRat(below, x) {
			t.Fatalf("Near(%s, %d): %s is no multiple", show(a), bits, fraction.Text(x))
		}
	}
	low, high := modelSign(linear(r.Lo), a), modelSign(linear(r.Hi), a)
	point := low == 0 && sameRat(r.Lo, r.Hi)
	if !point && (low != 1 || high != -1 || !sameRat(interval.Width(r), width)) {
		t.Fatalf("Near(%s, %d): %s", show(a), bits, interval.Text(r))
	}
}

// P7.1: Near, for numbers on the grid, beside it, and others.
func TestNear(t *testing.T) {
	r := rand.New(rand.NewSource(5))
	for _, a := range drawn(t, r, 30) {
		for _, bits := range []int{0, 1, 2, 3, 7, 31, 32, 33, 63, 64} {
			checkNear(t, a, bits, near(t, a, bits))
		}
	}
	for _, x := range []struct {
		a    api.Alg
		bits int
		want string
	}{
		{number("-2 0 1", "0..4"), 0, "1..2"},
		{number("-2 0 1", "-4..0"), 0, "-2..-1"},
		{number("-2 0 1", "-4..0"), 2, "-3/2..-5/4"},
		{number("-1/3 1", "0..1"), 0, "0..1"},
		{number("-1/3 1", "1/3..1/3"), 2, "1/4..1/2"},
		{number("1/3 1", "-1/3..-1/3"), 2, "-1/2..-1/4"},
		{number("-9/4 0 1", "0..4"), 0, "1..2"},
		{number("-9/4 0 1", "0..4"), 1, "3/2..3/2"},
		{number("-9/4 0 1", "0..4"), 64, "3/2..3/2"},
		{number("-9/4 0 1", "-1000000007/3..0"), 64, "-3/2..-3/2"},
		{number("0 1", "-1/3..1"), 5, "0..0"},
		{number("-4 0 1", "3/2..9"), 0, "2..2"},
	} {
		if r := near(t, x.a, x.bits); interval.Text(r) != x.want {
			t.Errorf("Near(%s, %d): %s, not %s", show(x.a), x.bits, interval.Text(r), x.want)
		}
	}
}

// P7.1: Between, with few and many bits.
func TestBetween(t *testing.T) {
	for _, x := range []struct {
		a, b api.Alg
		want string
	}{
		{number("-2 0 1", "0..4"), number("-3 0 1", "0..4"), "3/2"},
		{number("-2 0 1", "-4..0"), number("-2 0 1", "0..4"), "-1"},
		{number("1 1", "-1..-1"), number("-2 0 1", "0..4"), "0"},
		{number("0 1", "0..0"), number("-1 1", "1..1"), "1/2"},
		{number("0 1", "-1..1"), number("-2 1", "0..3"), "1"},
		{number("0 1", "0..0"), number("-3 1", "3..3"), "1"},
		{number("3 1", "-3..-3"), number("0 1", "0..0"), "-2"},
		{number("-1/3 1", "0..1"), number("-2/3 1", "0..1"), "1/2"},
		{number("-1/2 1", "0..1"), number("-2/3 1", "0..1"), "5/8"},
		{number("-5/8 1", "0..1"), number("-2/3 1", "0..1"), "21/32"},
		{number("-2 0 1", "0..4"), number("-99 70", "1..2"), "23171/16384"},
		// The multiples of 2^-64 are the last that come into question.
		{algebraic.Of(api.Rat{}), algebraic.Of(unit(63)), fraction.Text(unit(64))},
		{algebraic.Of(fraction.Neg(unit(63))), algebraic.Of(api.Rat{}), fraction.Text(fraction.Neg(unit(64)))},
		{algebraic.Of(unit(70)), algebraic.Of(fraction.Add(unit(64), unit(300))), fraction.Text(unit(64))},
		{number("-1 0 0 0 0 2", "0..1"), number("-1 0 0 0 0 2", "0..1"), ""},
	} {
		y, err := algebraic.Between(x.a, x.b)
		if x.want == "" {
			if err != api.ErrRange || !sameRat(y, api.Rat{}) {
				t.Errorf("Between(%s, %s): %s, %v", show(x.a), show(x.b), fraction.Text(y), err)
			}
			continue
		}
		if err != nil || fraction.Text(y) != x.want {
			t.Errorf("Between(%s, %s): %s, %v, not %s", show(x.a), show(x.b), fraction.Text(y), err, x.want)
		}
		if y, err := algebraic.Between(x.b, x.a); err != api.ErrRange || !sameRat(y, api.Rat{}) {
			t.Errorf("Between(%s, %s): %s, %v", show(x.b), show(x.a), fraction.Text(y), err)
		}
	}
}

// P7.1: Between finds nothing where there is no multiple of 2^-64.
func TestTooClose(t *testing.T) {
	bits := tower.MaxBits
	third := rat("1/3")
	beside := fraction.Add(third, unit(bits+2))
	square := list[api.Poly]("-2 0 1")
	close := list[api.Poly]("-2 0 1")
	close[0] = fraction.Sub(close[0], unit(90))
	for _, x := range [][2]api.Alg{
		{algebraic.Of(api.Rat{}), algebraic.Of(unit(bits))},
		{algebraic.Of(fraction.Neg(unit(bits))), algebraic.Of(api.Rat{})},
		{algebraic.Of(third), algebraic.Of(beside)},
		{{P: square, R: span("0..4")}, {P: close, R: span("0..4")}},
		{{P: close, R: span("-4..0")}, {P: square, R: span("-4..0")}},
	} {
		if y, err := algebraic.Between(x[0], x[1]); err != api.ErrLarge || !sameRat(y, api.Rat{}) {
			t.Errorf("Between(%s, %s): %s, %v", show(x[0]), show(x[1]), fraction.Text(y), err)
		}
		if y, err := algebraic.Between(x[1], x[0]); err != api.ErrRange || !sameRat(y, api.Rat{}) {
			t.Errorf("Between(%s, %s): %s, %v", show(x[1]), show(x[0]), fraction.Text(y), err)
		}
	}
}
