package sturm_test

import (
	"math"
	"math/rand"
	"testing"

	"linkwork/api"
	"linkwork/fraction"
	"linkwork/interval"
	"linkwork/poly"
	"linkwork/sturm"
)

// outcome is what a call returns: all fractions of its results, its number or answer, its error.
type outcome struct {
	numbers []api.Rat
	n       int
	err     error
}

// ends returns the ends of some intervals.
func ends(l ...api.Range) []api.Rat {
	var all []api.Rat
	for _, r := range l {
		all = append(all, r.Lo, r.Hi)
	}
	return all
}

// calls calls each function.
func calls(p api.Poly, r api.Range, bits int) map[string]outcome {
	chain, chained := sturm.Chain(p)
	count, counted := sturm.Count(p, r.Lo, r.Hi)
	all, counting := sturm.All(p)
	end, bounded := sturm.Bound(p)
	is, isolating := sturm.Isolating(p, r)
	found, isolated := sturm.Isolate(p)
	refined, refining := sturm.Refine(p, r, bits)
	answer := 0
	if is {
		answer = 1
	}
	var elements []api.Rat
	for _, c := range chain {
		elements = append(elements, c...)
	}
	return map[string]outcome{
		"Chain":     {elements, 0, chained},
		"Count":     {nil, count, counted},
		"All":       {nil, all, counting},
		"Bound":     {[]api.Rat{end}, 0, bounded},
		"Isolating": {nil, answer, isolating},
		"Isolate":   {ends(found...), 0, isolated},
		"Refine":    {ends(refined), 0, refining},
	}
}

// expectAll checks that all calls have an error and no other result.
func expectAll(t *testing.T, calls map[string]outcome, want api.Errno) {
	t.Helper()
	for name, o := range calls {
		if o.err != want || o.n != 0 {
			t.Fatalf("%s: %d, %v, not %v", name, o.n, o.err, want)
		}
		for _, x := range o.numbers {
			if !sameRat(x, api.Rat{}) {
				t.Fatalf("%s: %v beside %v", name, o.numbers, want)
			}
		}
	}
}

// longest returns a polynomial of the degree n, with many zeros.
func longest(n int) api.Poly {
	return append(make(api.Poly, n), num("-5/3"))
}

// refused returns lists that are no polynomials, or 0, with their errors.
func refused() map[api.Errno][]api.Poly {
	wrong := badRats()
	all := map[api.Errno][]api.Poly{
		api.ErrLarge: {longest(65), make(api.Poly, 66), append(longest(70), wrong...)},
		api.ErrZero:  {nil, {}, list("0"), list("1 0"), make(api.Poly, 65)},
	}
	for _, bad := range wrong {
		all[api.ErrForm] = append(all[api.ErrForm], api.Poly{bad}, api.Poly{bad, num("1")}, api.Poly{bad, {}})
	}
	return all
}

// P6.1: the errors of the polynomial come first, then that of the polynomial 0.
func TestPolyFirst(t *testing.T) {
	for want, lists := range refused() {
		for _, p := range lists {
			expectAll(t, calls(p, span("-1..1"), 3), want)
			expectAll(t, calls(p, span("0..0"), 0), want)
			for _, r := range badRanges() {
				expectAll(t, calls(p, r, 3), want)
				expectAll(t, calls(p, r, -1), want)
			}
		}
	}
}

// P6.1: Count refuses ends that are not valid or not in order; to Isolating they are no interval, and Refine refuses them.
func TestBadRanges(t *testing.T) {
	for _, p := range edges() {
		for _, r := range badRanges() {
			n, err := sturm.Count(p, r.Lo, r.Hi)
			expectAll(t, map[string]outcome{"Count": {nil, n, err}}, api.ErrRange)
			if isolating(t, p, r) {
				t.Fatalf("Isolating(%s, %v)", show(p), r)
			}
			x, err := sturm.Refine(p, r, 3)
			expectAll(t, map[string]outcome{"Refine": {ends(x), 0, err}}, api.ErrCert)
			x, err = sturm.Refine(p, r, -1)
			expectAll(t, map[string]outcome{"Refine": {ends(x), 0, err}}, api.ErrRange)
		}
	}
}

// P6.1: the errors of Refine: of the number of bits, then of the interval.
func TestRefineErrors(t *testing.T) {
	p := list("0 -1 0 1")
	for _, x := range []struct {
		r    string
		bits int
		want error
	}{
		{"-1/2..1/2", -1, api.ErrRange},
		{"-1/2..1/2", fraction.MaxBits + 1, api.ErrRange},
		{"-1/2..1/2", math.MinInt, api.ErrRange},
		{"-1/2..1/2", math.MaxInt, api.ErrRange},
		{"-1/2..1/2", 0, nil},
		{"-1/2..1/2", fraction.MaxBits, nil},
		{"-2..2", -1, api.ErrRange},
		{"-2..2", 257, api.ErrRange},
		{"-2..2", 0, api.ErrCert},
		{"-2..2", 256, api.ErrCert},
		{"-1/2..1", 3, api.ErrCert},
		{"0..1/2", 3, api.ErrCert},
		{"-1..1", 3, api.ErrCert},
		{"1/2..1/2", 3, api.ErrCert},
		{"2..3", 3, api.ErrCert},
		{"1..1", 3, nil},
	} {
		got, err := sturm.Refine(p, span(x.r), x.bits)
		if err != x.want || err != nil && !sameRange(got, api.Range{}) {
			t.Errorf("Refine(x^3 - x, %s, %d): %s, %v", x.r, x.bits, interval.Text(got), err)
		}
	}
}

// scratch overwrites the words of a fraction.
func scratch(x api.Rat) {
	for _, words := range [][]uint32{x.Num, x.Den} {
		words = words[:cap(words)]
		for i := range words {
			words[i] = 0xdeadbeef
		}
	}
}

// P6.1: arguments are not changed, and results share no memory with them nor with one another.
func TestMemory(t *testing.T) {
	r := rand.New(rand.NewSource(13))
	for _, p := range cases(t, r, 40) {
		spans := append(isolate(t, p), span("-1/2..1/2"), span("-1/3..1000000007/3"))
		for _, x := range spans {
			kept, lo, hi := copyPoly(p), copyRat(x.Lo), copyRat(x.Hi)
			arguments := copyPoly(p)
			all := calls(arguments, x, 7)
			if !samePoly(arguments, kept) || !sameRat(x.Lo, lo) || !sameRat(x.Hi, hi) {
				t.Fatalf("an argument: %s, %s", show(arguments), interval.Text(x))
			}
			checkOwn(t, all, append(arguments, x.Lo, x.Hi))
		}
	}
}

// checkOwn checks that the numbers of results share no memory with the arguments, nor with one another.
func checkOwn(t *testing.T, all map[string]outcome, arguments []api.Rat) {
	t.Helper()
	kept := map[string]api.Poly{}
	for name, o := range all {
		kept[name] = copyPoly(o.numbers)
	}
	for _, x := range arguments {
		scratch(x)
	}
	for name, o := range all {
		for i, x := range o.numbers {
			if !sameRat(x, kept[name][i]) {
				t.Fatalf("%s shares memory: %s", name, show(kept[name]))
			}
			scratch(x)
		}
	}
}

// P6.1: the elements of a chain, the intervals and their ends can be changed one by one.
func TestListsOfResults(t *testing.T) {
	p := list("0 -1 0 1")
	l := chain(t, p)
	for i := range l {
		l[i][0] = num("7")
		l[i] = append(l[i], num("9"))
	}
	for i, c := range chain(t, p) {
		if poly.Degree(c) != 3-i {
			t.Errorf("the degree of the element %d: %d", i, poly.Degree(c))
		}
		if i > 0 && len(l[i]) != len(c)+1 {
			t.Errorf("the element %d: %s", i, show(l[i]))
		}
	}
}
