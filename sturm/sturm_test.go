package sturm_test

import (
	"math/rand"
	"slices"
	"testing"

	"linkwork/api"
	"linkwork/fraction"
	"linkwork/interval"
)

// expectRanges compares some intervals with the wanted ones.
func expectRanges(t *testing.T, p api.Poly, got, want []api.Range) {
	t.Helper()
	if !slices.EqualFunc(got, want, sameRange) {
		t.Fatalf("of %s: %s, not %s", show(p), showAll(got), showAll(want))
	}
}

// spans returns the intervals of some texts.
func spans(texts ...string) []api.Range {
	var all []api.Range
	for _, s := range texts {
		all = append(all, span(s))
	}
	return all
}

// P6.1: the examples of the chapter.
func TestExamples(t *testing.T) {
	p := list("-2 0 1")
	if n, b := all(t, p), bound(t, p); n != 2 || !sameRat(b, num("4")) {
		t.Errorf("%d roots, Bound %s", n, fraction.Text(b))
	}
	found := isolate(t, p)
	expectRanges(t, p, found, spans("-4..0", "0..4"))
	expectRanges(t, p, []api.Range{refine(t, p, found[1], 1)}, spans("1..3/2"))
	if n := all(t, list("1 0 1")); n != 0 {
		t.Errorf("%d roots of x^2 + 1", n)
	}
	p = list("0 -1 0 1")
	if b := bound(t, p); !sameRat(b, num("2")) {
		t.Errorf("Bound %s", fraction.Text(b))
	}
	expectRanges(t, p, isolate(t, p), spans("-1..-1", "0..0", "1..1"))
}

// P6.1: Sturm's chain, compared with its definition.
func TestChain(t *testing.T) {
	r := rand.New(rand.NewSource(1))
	for _, p := range cases(t, r, 100) {
		got, want := chain(t, p), toModel(t, p).chain()
		if len(got) != len(want) {
			t.Fatalf("Chain(%s): %d elements, not %d", show(p), len(got), len(want))
		}
		for i, m := range want {
			if !samePoly(got[i], m.poly()) {
				t.Fatalf("Chain(%s), element %d: %s, not %s", show(p), i, show(got[i]), show(m.poly()))
			}
		}
	}
	for _, x := range [][]string{
		{"5", "1"},
		{"-3 2", "-3/2 1", "1"},
		{"1 -2 1", "-1 1", "1"},
		{"0 0 -3 0 3", "0 -1 0 1", "-1 0 3", "0 2/3", "1"},
		// of x^5 - 1 there is no element of the degrees 3 to 1
		{"-1 0 0 0 0 1", "-1 0 0 0 0 1", "0 0 0 0 5", "1"},
	} {
		for i, c := range chain(t, list(x[0])) {
			if i+1 >= len(x) || !samePoly(c, list(x[i+1])) {
				t.Errorf("Chain(%s), element %d: %s", x[0], i, show(c))
			}
		}
	}
}

// places returns fractions where counting may go wrong: the ends of the intervals that Isolate finds,
// places just beside them and far away, 0, and drawn ones; ascending, some of them twice.
func places(t *testing.T, r *rand.Rand, p api.Poly) []api.Rat {
	end := bound(t, p)
	list := []api.Rat{{}, end, fraction.Neg(end), num("-1000000000000000000000"), num("1000000000000000000000"), num("1/3")}
	for _, x := range isolate(t, p) {
		tiny := num("1/340282366920938463463374607431768211456")
		list = append(list, x.Lo, x.Hi, interval.Mid(x), fraction.Add(x.Hi, tiny), fraction.Sub(x.Lo, tiny))
	}
	for range 4 {
		list = append(list, drawRat(r, 1+r.Intn(40)))
	}
	slices.SortFunc(list, fraction.Cmp)
	return list
}

// P6.1: Count and All, compared with Sturm's theorem.
func TestCount(t *testing.T) {
	r := rand.New(rand.NewSource(2))
	for _, p := range cases(t, r, 60) {
		m := toSturm(t, p)
		if n := all(t, p); n != m.all() {
			t.Fatalf("All(%s): %d, not %d", show(p), n, m.all())
		}
		list := places(t, r, p)
		for i, lo := range list {
			for _, hi := range list[i:] {
				n, want := count(t, p, lo, hi), m.count(toBig(t, lo), toBig(t, hi))
				if n != want {
					t.Fatalf("Count(%s, %s, %s): %d, not %d", show(p), fraction.Text(lo), fraction.Text(hi), n, want)
				}
			}
		}
	}
	p := list("0 -1 0 1")
	for _, x := range []struct {
		lo, hi string
		want   int
	}{
		{"-2", "2", 3}, {"-1", "1", 2}, {"-1", "0", 1}, {"0", "0", 0}, {"-1", "-1", 0}, {"0", "1", 1},
		{"-2", "-1", 1}, {"1", "7", 0}, {"-9/8", "1/7", 2}, {"5", "9", 0}, {"-9", "-5", 0},
		{"-1000000000000000000000000000000", "1000000000000000000000000000000", 3},
	} {
		if n := count(t, p, num(x.lo), num(x.hi)); n != x.want {
			t.Errorf("Count of x^3 - x, %s, %s: %d, not %d", x.lo, x.hi, n, x.want)
		}
	}
}

// P6.1: Bound is the least power that is great enough, of p itself.
func TestBound(t *testing.T) {
	r := rand.New(rand.NewSource(3))
	for _, p := range cases(t, r, 300) {
		if b, want := bound(t, p), fromBig(toSturm(t, p).bound()); !sameRat(b, want) {
			t.Fatalf("Bound(%s): %s, not %s", show(p), fraction.Text(b), fraction.Text(want))
		}
	}
	for _, x := range [][2]string{
		{"5", "2"}, {"-1/7", "2"}, {"0 -3", "2"}, {"1 1", "2"}, {"-1/2 1", "2"}, {"1 1/2", "4"}, {"-3/2 1", "4"},
		{"2 1", "4"}, {"3 1", "4"}, {"-3 1", "4"}, {"3000001/1000000 1", "8"}, {"4 1", "8"}, {"7 1", "8"}, {"7 -1", "8"},
		{"15/2 1", "16"}, {"9 -6 1", "16"}, {"-3 -5 1", "8"}, {"1 4294967295", "2"}, {"4294967295 1", "4294967296"},
		{"4294967296 1", "8589934592"}, {"1/3 1 1/18446744073709551616", "36893488147419103232"},
		{"18446744073709551615 0 0 1", "18446744073709551616"}, {"0 18446744073709551616 0 1", "36893488147419103232"},
	} {
		if b := bound(t, list(x[0])); !sameRat(b, num(x[1])) {
			t.Errorf("Bound of %s: %s, not %s", x[0], fraction.Text(b), x[1])
		}
	}
}

// P6.1: Isolate finds what the search of the chapter finds.
func TestSearch(t *testing.T) {
	r := rand.New(rand.NewSource(4))
	for _, p := range cases(t, r, 250) {
		expectRanges(t, p, isolate(t, p), ranges(toSturm(t, p).isolate()))
	}
	// Products of roots on the grid of the search, where intervals begin and end with roots.
	grid := []string{"-2", "-1", "-3/4", "-1/2", "-1/4", "0", "1/8", "1/4", "1/2", "5/8", "1", "5/4", "3", "4"}
	for range 250 {
		p := list("1")
		for range 1 + r.Intn(6) {
			p = mul(t, p, linear(num(grid[r.Intn(len(grid))])))
		}
		expectRanges(t, p, isolate(t, p), ranges(toSturm(t, p).isolate()))
	}
}

// P6.1: where the search ends, and what it does with roots at ends of intervals.
func TestIsolate(t *testing.T) {
	for _, x := range []struct {
		p    string
		want []api.Range
	}{
		{"5", nil},
		{"1 0 1", nil},
		// One root: the whole interval, even if the root is in its middle.
		{"0 1", spans("-2..2")},
		{"0 0 0 -7", spans("-2..2")},
		{"-1 1", spans("-2..2")},
		{"-3 1", spans("-4..4")},
		// Bound is that of p, not that of the polynomial without multiple roots.
		{"9 -6 1", spans("-16..16")},
		// Roots at an end.
		{"0 -1 1", spans("0..0", "1..1")},
		{"0 1 1", spans("-1..-1", "0..0")},
		{"0 -2 1", spans("0..0", "2..2")},
		{"0 -3 1", spans("0..0", "2..4")},
		{"0 -1/3 1", spans("0..0", "1/4..1/2")},
		{"0 1/3 1", spans("-1/2..-1/4", "0..0")},
		{"3/4 -7/4 1", spans("3/4..3/4", "1..1")},
		{"5/4 -9/4 1", spans("1..1", "5/4..5/4")},
		{"4/3 -7/3 1", spans("1..1", "5/4..3/2")},
		// Far from the roots there is only one root on each side, unless 0 is a root.
		{"-36 0 1", spans("-64..0", "0..64")},
		{"0 -36 0 1", spans("-8..-4", "0..0", "4..8")},
	} {
		expectRanges(t, list(x.p), isolate(t, list(x.p)), x.want)
	}
}

// spansBeside returns intervals that may be isolating: those with two of the given ends.
func spansBeside(ends []api.Rat) []api.Range {
	var all []api.Range
	for i, lo := range ends {
		for _, hi := range ends[i:] {
			all = append(all, api.Range{Lo: lo, Hi: hi})
		}
	}
	return all
}

// P6.1: Isolating, compared with its definition; and Refine of what is isolating.
func TestIsolating(t *testing.T) {
	r := rand.New(rand.NewSource(5))
	for i, p := range cases(t, r, 25) {
		m := toSturm(t, p)
		for k, x := range spansBeside(places(t, r, p)) {
			wide := bigRange{toBig(t, x.Lo), toBig(t, x.Hi)}
			want := m.isolating(wide)
			if is := isolating(t, p, x); is != want {
				t.Fatalf("Isolating(%s, %s): %v", show(p), interval.Text(x), is)
			}
			if want && (i+k)%7 == 0 {
				bits := []int{0, 1, 2, 3, 9, 20}[(i+k)/7%6]
				got := []api.Range{refine(t, p, x, bits)}
				expectRanges(t, p, got, ranges([]bigRange{m.refine(wide, bits)}))
			}
		}
	}
	for _, x := range []struct {
		p, r string
		want bool
	}{
		{"0 -1 0 1", "0..0", true},
		{"0 -1 0 1", "1/2..1/2", false},
		{"0 -1 0 1", "-1/2..1/2", true},
		{"0 -1 0 1", "-1/2..1", false},
		{"0 -1 0 1", "0..1/2", false},
		{"0 -1 0 1", "-2..2", false},
		{"0 -1 0 1", "2..3", false},
		{"1 -2 1", "0..2", true},
		{"1 -2 1", "1..1", true},
		{"1 -2 1", "1..2", false},
		{"7", "0..0", false},
		{"7", "-1..1", false},
		{"-2 0 1", "0..100000000000000000000000000000000000000000000000000", true},
		{"-2 0 1", "-100000000000000000000000000000..100000000000000000000", false},
		{"-1 1", "-100000000000000000000000000000..100000000000000000000", true},
		{"0 -1 0 1", "100..100", false},
		{"0 -1 0 1", "100..200", false},
		{"0 -1 0 1", "-200..-100", false},
		{"0 -1 0 1", "1/2..200", true},
	} {
		if is := isolating(t, list(x.p), span(x.r)); is != x.want {
			t.Errorf("Isolating(%s, %s): %v", x.p, x.r, is)
		}
	}
}

// P6.1: Refine halves no more often than it has to, and ends with a root in the middle.
func TestRefine(t *testing.T) {
	for _, x := range []struct {
		p, r string
		bits int
		want string
	}{
		{"-2 0 1", "0..4", 0, "1..2"},
		{"-2 0 1", "0..4", 1, "1..3/2"},
		{"-2 0 1", "1..3/2", 1, "1..3/2"},
		{"-2 0 1", "1..3/2", 0, "1..3/2"},
		{"-2 0 1", "-2..0", 2, "-3/2..-5/4"},
		{"-2 0 1", "0..3", 1, "9/8..3/2"},
		{"-1 1", "0..2", 0, "1..1"},
		{"-1 1", "0..2", 5, "1..1"},
		{"-1 1", "0..3", 3, "15/16..33/32"},
		{"-1 1", "1/3..4/3", 0, "1/3..4/3"},
		{"-1 1", "1..1", 256, "1..1"},
		{"1 -2 1", "1/3..7/3", 1, "5/6..4/3"},
	} {
		got := refine(t, list(x.p), span(x.r), x.bits)
		expectRanges(t, list(x.p), []api.Range{got}, spans(x.want))
	}
}
