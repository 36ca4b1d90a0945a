package algebraic_test

import (
	"math"
	"math/rand"
	"slices"
	"testing"

	"linkwork/algebraic"
	"linkwork/api"
	"linkwork/fraction"
	"linkwork/interval"
)

// outcome is what a call returns: all fractions of its results, its number, its error.
type outcome struct {
	numbers []api.Rat
	n       int
	err     error
}

// ofOne calls each function with one number.
func ofOne(a api.Alg, p api.Poly, x api.Rat, bits int) map[string]outcome {
	against, compared := algebraic.CmpRat(a, x)
	sign, signed := algebraic.SignAt(p, a)
	r, enclosed := algebraic.Near(a, bits)
	return map[string]outcome{
		"Check":  {nil, 0, algebraic.Check(a)},
		"CmpRat": {nil, against, compared},
		"SignAt": {nil, sign, signed},
		"Near":   {[]api.Rat{r.Lo, r.Hi}, 0, enclosed},
	}
}

// ofTwo calls each function with two numbers.
func ofTwo(a, b api.Alg) map[string]outcome {
	c, compared := algebraic.Cmp(a, b)
	x, found := algebraic.Between(a, b)
	return map[string]outcome{"Cmp": {nil, c, compared}, "Between": {[]api.Rat{x}, 0, found}}
}

// expectAll checks that all calls have an error and no other result.
func expectAll(t *testing.T, calls map[string]outcome, want error) {
	t.Helper()
	for name, o := range calls {
		if o.err != want || o.n != 0 {
			t.Fatalf("%s: %d, %v, not %v", name, o.n, o.err, want)
		}
		for _, x := range o.numbers {
			if !sameRat(x, api.Rat{}) {
				t.Fatalf("%s: %v beside %v", name, o.numbers, want)
			}
		}
	}
}

// longest returns a polynomial of the degree n, with many zeros.
func longest(n int) api.Poly {
	return append(make(api.Poly, n), rat("-5/3"))
}

// wrong is what is no number, with its error.
type wrong struct {
	a    api.Alg
	want error
}

// refused returns what is no number. Some have several faults.
func refused() []wrong {
	l := []wrong{
		{api.Alg{}, api.ErrZero},
		{api.Alg{P: longest(65)}, api.ErrLarge},
		{api.Alg{P: make(api.Poly, 66)}, api.ErrLarge},
		{api.Alg{P: longest(64)}, api.ErrForm},
		{number("1 0", "-1..-1"), api.ErrZero},
		{number("1 -2 1", "0..2"), api.ErrForm},
		{number("1 -2 1", "2..0"), api.ErrForm},
		{number("-2 0 1", "0..1"), api.ErrCert},
		{number("-2 0 1", "4..0"), api.ErrCert},
		{number("-2 0 1", "-2..2"), api.ErrCert},
		{number("5", "0..0"), api.ErrCert},
	}
	for _, bad := range badRats() {
		l = append(l,
			wrong{api.Alg{P: api.Poly{bad, rat("1")}, R: span("0..0")}, api.ErrForm},
			wrong{api.Alg{P: api.Poly{rat("1"), bad}, R: api.Range{Lo: bad}}, api.ErrForm},
			wrong{api.Alg{P: list[api.Poly]("0 1"), R: api.Range{Lo: bad}}, api.ErrCert},
			wrong{api.Alg{P: list[api.Poly]("0 1"), R: api.Range{Lo: rat("-1"), Hi: bad}}, api.ErrCert},
			wrong{api.Alg{P: list[api.Poly]("-2 0 1"), R: api.Range{Lo: bad, Hi: rat("4")}}, api.ErrCert},
		)
	}
	return l
}

// P7.1: the errors of the first number come first, then those of the second one, then all others.
func TestNumbersFirst(t *testing.T) {
	all := refused()
	two := number("-2 0 1", "0..4")
	for i, x := range all {
		for _, p := range []api.Poly{nil, list[api.Poly]("1 0"), list[api.Poly]("1 2"), longest(65)} {
			for _, bits := range []int{-1, 0, 64, 65, math.MinInt, math.MaxInt} {
				expectAll(t, ofOne(x.a, p, rat("1/2"), bits), x.want)
			}
		}
		expectAll(t, ofTwo(x.a, two), x.want)
		expectAll(t, ofTwo(two, x.a), x.want)
		expectAll(t, ofTwo(x.a, all[len(all)-1-i].a), x.want)
	}
}

// P7.1: the errors that come after those of the numbers.
func TestOtherErrors(t *testing.T) {
	two := number("-2 0 1", "0..4")
	for want, lists := range map[api.Errno][]api.Poly{
		api.ErrLarge: {longest(65), make(api.Poly, 66)},
		api.ErrForm:  {{badRats()[0]}, {badRats()[1], rat("1")}},
		api.ErrZero:  {list[api.Poly]("0"), list[api.Poly]("-2 0 1 0")},
	} {
		for _, p := range lists {
			s, err := algebraic.SignAt(p, two)
			l, refused := algebraic.Roots(p)
			expectAll(t, map[string]outcome{"SignAt": {nil, s, err}, "Roots": {nil, len(l), refused}}, want)
		}
	}
	for _, bits := range []int{-1, 65, math.MinInt, math.MaxInt} {
		r, err := algebraic.Near(two, bits)
		expectAll(t, map[string]outcome{"Near": {[]api.Rat{r.Lo, r.Hi}, 0, err}}, api.ErrRange)
	}
	for _, a := range []api.Alg{two, number("-2 0 1", "-4..0"), algebraic.Of(rat("1"))} {
		x, err := algebraic.Between(two, a)
		expectAll(t, map[string]outcome{"Between": {[]api.Rat{x}, 0, err}}, api.ErrRange)
	}
}

// scratch overwrites the words of a fraction.
func scratch(x api.Rat) {
	for _, words := range [][]uint32{x.Num, x.Den} {
		words = words[:cap(words)]
		for i := range words {
			words[i] = 0xdeadbeef
		}
	}
}

// P7.1: arguments are not changed, and results share no memory with them nor with one another.
func TestMemory(t *testing.T) {
	r := rand.New(rand.NewSource(16))
	all := drawn(t, r, 8)
	for i := range all {
		a, b := copyAlg(all[i]), copyAlg(all[len(all)-1-i])
		p, x := drawPoly(r, 4, 6), drawRat(r, 6)
		arguments := slices.Concat(numbers(a), numbers(b), []api.Rat(p), []api.Rat{x})
		kept := copyList(arguments)
		results := map[string][]api.Rat{"Of": numbers(algebraic.Of(x))}
		for name, o := range ofOne(a, p, x, i%65) {
			results[name] = o.numbers
		}
		for name, o := range ofTwo(a, b) {
			results[name] = o.numbers
		}
		for name, q := range map[string]api.Poly{"Roots": p, "Roots of a": a.P} {
			for _, c := range roots(t, q) {
				results[name] = append(results[name], numbers(c)...)
			}
		}
		if !sameList(arguments, kept) {
			t.Fatalf("an argument: %s, not %s", showList(arguments), showList(kept))
		}
		checkApart(t, results, arguments)
	}
}

// checkApart checks that results share no memory with arguments, and none within themselves.
func checkApart(t *testing.T, results map[string][]api.Rat, arguments []api.Rat) {
	t.Helper()
	kept := map[string][]api.Rat{}
	for name, l := range results {
		kept[name] = copyList(l)
	}
	for _, x := range arguments {
		scratch(x)
	}
	for name, l := range results {
		for i, x := range l {
			if !sameRat(x, kept[name][i]) {
				t.Fatalf("%s shares memory: %s", name, showList(kept[name]))
			}
			scratch(x)
		}
	}
}

// P7.1: a point among the results has two ends of its own, and so have lists of roots.
func TestOwnResults(t *testing.T) {
	r := near(t, number("-9/4 0 1", "3/2..3/2"), 5)
	scratch(r.Lo)
	if fraction.Text(r.Hi) != "3/2" {
		t.Errorf("the ends of Near share memory")
	}
	l := roots(t, list[api.Poly]("0 -1 0 1"))
	l[0].P[0], l[0].R.Hi = rat("7"), rat("9")
	l[0].P = append(l[0].P, rat("9"))
	for i, want := range []string{"[0 -1 0 1] 0..0", "[0 -1 0 1] 1..1"} {
		if show(l[i+1]) != want {
			t.Errorf("root %d: %s", i+1, show(l[i+1]))
		}
	}
	if a := algebraic.Of(rat("5")); interval.Text(a.R) != "5..5" {
		t.Errorf("Of(5): %s", show(a))
	}
}

// P7.1: Minimal and Number leave their arguments alone and share no memory with them.
func TestTowerMemory(t *testing.T) {
	r := rand.New(rand.NewSource(17))
	for _, u := range towers() {
		x := drawNum(r, len(u.Roots), 6)
		var arguments []api.Rat
		for _, d := range u.Roots {
			arguments = append(arguments, d...)
		}
		arguments = append(arguments, x...)
		kept := copyList(arguments)
		p := must[api.Poly](t)(algebraic.Minimal(u, x))
		a := must[api.Alg](t)(algebraic.Number(u, x))
		if !sameList(arguments, kept) {
			t.Fatalf("an argument was changed: %s", showList(kept))
		}
		checkApart(t, map[string][]api.Rat{"Minimal": p, "Number": numbers(a)}, arguments)
	}
}
