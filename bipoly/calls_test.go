package bipoly_test

import (
	"math/rand"
	"slices"
	"testing"

	"linkwork/api"
	"linkwork/bipoly"
	"linkwork/fraction"
)

// outcome is what a call returns: all fractions of its results, its number (or 1 for true), its error.
type outcome struct {
	numbers []api.Rat
	n       int
	err     error
}

// ofTerms returns the outcome of a polynomial.
func ofTerms(p api.BiPoly, err error) outcome {
	var l []api.Rat
	for _, t := range p {
		l = append(l, t.C)
	}
	return outcome{l, 0, err}
}

// ofOne calls each function of one polynomial.
func ofOne(p api.BiPoly, x, y api.Rat) map[string]outcome {
	n, ranked := bipoly.Degree(p)
	v, evaluated := bipoly.Eval(p, x, y)
	rest, first := bipoly.Fix(p, false, x)
	other, second := bipoly.Fix(p, true, y)
	calls := ofNumbers(api.Tower{}, p, api.Num{x}, api.Num{y})
	calls["Check"] = outcome{nil, 0, bipoly.Check(p)}
	calls["Degree"] = outcome{nil, n, ranked}
	calls["Scale"] = ofTerms(bipoly.Scale(p, x))
	calls["Eval"] = outcome{[]api.Rat{v}, 0, evaluated}
	calls["Partial by x"] = ofTerms(bipoly.Partial(p, false))
	calls["Partial by y"] = ofTerms(bipoly.Partial(p, true))
	calls["Fix x"] = outcome{rest, 0, first}
	calls["Fix y"] = outcome{other, 0, second}
	calls["Top"] = ofTerms(bipoly.Top(p))
	return calls
}

// ofNumbers calls At.
func ofNumbers(u api.Tower, p api.BiPoly, x, y api.Num) map[string]outcome {
	v, err := bipoly.At(u, p, x, y)
	return map[string]outcome{"At": {v, 0, err}}
}

// ofTwo calls each function of two polynomials.
func ofTwo(p, q api.BiPoly) map[string]outcome {
	is, compared := bipoly.Same(p, q)
	n := 0
	if is {
		n = 1
	}
	l, eliminated := bipoly.Eliminate(p, q)
	return map[string]outcome{
		"Add":       ofTerms(bipoly.Add(p, q)),
		"Sub":       ofTerms(bipoly.Sub(p, q)),
		"Mul":       ofTerms(bipoly.Mul(p, q)),
		"Same":      {nil, n, compared},
		"Eliminate": {l, 0, eliminated},
	}
}

// refused returns lists that are no polynomials, with their errors.
func refused() map[api.Errno][]api.BiPoly {
	wrong := badRats()[0]
	all := map[api.Errno][]api.BiPoly{
		api.ErrLarge: {make(api.BiPoly, 326), slices.Repeat(api.BiPoly{{I: -1, C: wrong}}, 326)},
		api.ErrRange: {of("1 -1 0"), of("1 0 0, 1 0 25"), {{J: -1, C: wrong}}},
		api.ErrZero:  {of("0 0 0"), of("1 0 0, 0 1 0"), make(api.BiPoly, 325)},
		api.ErrOrder: {of("1 1 0, 1 0 1"), of("1 2 3, 1 2 3"), {term("1", 0, 1), term("1", 0, 0), {C: wrong}}},
	}
	for _, bad := range badRats() {
		all[api.ErrForm] = append(all[api.ErrForm], api.BiPoly{{C: bad}}, api.BiPoly{term("1", 0, 0), {I: 1, C: bad}})
	}
	return all
}

// expectAll checks that all calls have an error and no other result.
func expectAll(t *testing.T, calls map[string]outcome, want error) {
	t.Helper()
	for name, o := range calls {
		if o.err != want || o.n != 0 {
			t.Fatalf("%s: %d, %v, not %v", name, o.n, o.err, want)
		}
		for _, x := range o.numbers {
			if !sameRat(x, api.Rat{}) {
				t.Fatalf("%s: %s beside %v", name, showList(o.numbers), want)
			}
		}
	}
}

// P9.1: the errors of the polynomials come first, those of the first one before those of the second.
func TestPolysFirst(t *testing.T) {
	goods := append(edges(), of("1 0 24"), of("1 24 0"))
	for want, lists := range refused() {
		for _, bad := range lists {
			expectAll(t, ofOne(bad, rat("2"), rat("3")), want)
			expectAll(t, ofOne(bad, badRats()[0], badRats()[1]), want)
			for _, p := range goods {
				expectAll(t, ofTwo(bad, p), want)
				expectAll(t, ofTwo(p, bad), want)
			}
			for _, others := range refused() {
				for _, other := range others {
					expectAll(t, ofTwo(bad, other), want)
				}
			}
		}
	}
}

// P9.1: At looks at the polynomial, the tower, x and y, one after the other.
func TestErrorsOfAt(t *testing.T) {
	root := api.Tower{Roots: []api.Num{list("2")}}
	badTowers := map[api.Errno]api.Tower{
		api.ErrLarge: {Roots: make([]api.Num, 6)},
		api.ErrShape: {Roots: []api.Num{list("2"), list("3")}},
		api.ErrForm:  {Roots: []api.Num{{badRats()[0]}}},
		api.ErrRange: {Roots: []api.Num{list("-2")}},
	}
	badNums := map[api.Errno][]api.Num{
		api.ErrShape: {list("1 2 3"), list("1 2 3 4"), {badRats()[0], {}, {}}},
		api.ErrForm:  {{badRats()[1]}, {{}, badRats()[2]}},
	}
	for _, p := range edges() {
		for want, u := range badTowers {
			expectAll(t, ofNumbers(u, p, list("1"), list("2")), want)
			expectAll(t, ofNumbers(u, p, badNums[api.ErrShape][0], badNums[api.ErrForm][0]), want)
			expectAll(t, ofNumbers(u, of("0 0 0"), badNums[api.ErrForm][0], nil), api.ErrZero)
		}
		for want, nums := range badNums {
			for _, bad := range nums {
				expectAll(t, ofNumbers(root, p, bad, list("0 1")), want)
				expectAll(t, ofNumbers(root, p, list("0 1"), bad), want)
				for _, others := range badNums {
					expectAll(t, ofNumbers(root, p, bad, others[0]), want)
				}
				expectAll(t, ofNumbers(root, of("1 1 0, 1 0 1"), bad, bad), api.ErrOrder)
			}
		}
	}
}

// scratch overwrites the words of a fraction.
func scratch(x api.Rat) {
	for _, words := range [][]uint32{x.Num, x.Den} {
		words = words[:cap(words)]
		for i := range words {
			words[i] = 0xdeadbeef
		}
	}
}

// copyList returns l in memory of its own.
func copyList(l []api.Rat) []api.Rat {
	var c []api.Rat
	for _, x := range l {
		c = append(c, api.Rat{Neg: x.Neg, Num: slices.Clone(x.Num), Den: slices.Clone(x.Den)})
	}
	return c
}

// copyTerms returns p in memory of its own.
func copyTerms(p api.BiPoly) api.BiPoly {
	var c api.BiPoly
	for _, t := range p {
		c = append(c, api.Term{I: t.I, J: t.J, C: copyList([]api.Rat{t.C})[0]})
	}
	return c
}

// checkOwn checks that the numbers of results share no memory with the arguments, nor with one another.
func checkOwn(t *testing.T, calls map[string]outcome, polys []api.BiPoly, lists ...[]api.Rat) {
	t.Helper()
	kept := map[string][]api.Rat{}
	for name, o := range calls {
		kept[name] = copyList(o.numbers)
	}
	for _, p := range polys {
		for k := range p {
			scratch(p[k].C)
			p[k] = api.Term{I: -1}
		}
	}
	for _, l := range lists {
		for k := range l {
			scratch(l[k])
			l[k] = api.Rat{Neg: true}
		}
	}
	for name, o := range calls {
		for i, x := range o.numbers {
			if !sameRat(x, kept[name][i]) {
				t.Fatalf("%s shares memory: %s", name, showList(kept[name]))
			}
			scratch(x)
		}
	}
}

// P9.1: arguments are not changed, and results share no memory with them nor with one another.
func TestMemory(t *testing.T) {
	r := rand.New(rand.NewSource(80))
	for i, pair := range pairs(r) {
		for _, two := range [][2]api.BiPoly{pair, {pair[0], nil}, {nil, pair[0]}, {pair[0], of("1 0 0")}} {
			p, q := copyTerms(two[0]), copyTerms(two[1])
			x, y := []api.Rat{drawRat(r, 2+i%90)}, list("1")
			keptX, keptY := copyList(x), copyList(y)
			one, both := ofOne(p, x[0], y[0]), ofTwo(p, q)
			made := map[string]outcome{"Make": ofTerms(bipoly.Make(p))}
			expect(t, "an argument", p, two[0])
			expect(t, "an argument", q, two[1])
			expectList(t, "an argument", append(x, y...), append(keptX, keptY...))
			checkOwn(t, made, nil)
			checkOwn(t, one, nil)
			checkOwn(t, both, []api.BiPoly{p, q}, x, y)
			p = copyTerms(two[0])
			checkOwn(t, ofTwo(p, p), []api.BiPoly{p})
			p = copyTerms(two[0])
			checkOwn(t, ofOne(p, rat("1"), rat("1")), []api.BiPoly{p})
			p = copyTerms(two[0])
			checkOwn(t, map[string]outcome{"Make": ofTerms(bipoly.Make(p))}, []api.BiPoly{p})
		}
	}
}

// P9.1: the same for At in towers.
func TestMemoryOfAt(t *testing.T) {
	r := rand.New(rand.NewSource(81))
	for i, kept := range edges() {
		for _, u := range towers()[1:6] {
			p, x, y := copyTerms(kept), drawNum(r, u, 2+i), drawNum(r, u, 2+i)
			keptX, keptY := copyList(x), copyList(y)
			v := ofNumbers(u, p, x, y)
			expect(t, "an argument", p, kept)
			expectList(t, "an argument", x, keptX)
			expectList(t, "an argument", y, keptY)
			roots := make([][]api.Rat, len(u.Roots))
			for k, d := range u.Roots {
				roots[k] = d
			}
			checkOwn(t, v, []api.BiPoly{p}, append(roots, x, y)...)
		}
	}
}

// P9.1: a value that is not scaled is a copy.
func TestCopies(t *testing.T) {
	long := api.BiPoly{{C: fraction.Add(rat("340282366920938463463374607431768211457"), rat("1/3"))}}
	for name, o := range map[string]outcome{
		"Add":   ofTerms(bipoly.Add(long, nil)),
		"Sub":   ofTerms(bipoly.Sub(long, nil)),
		"Mul":   ofTerms(bipoly.Mul(long, of("1 0 0"))),
		"Scale": ofTerms(bipoly.Scale(long, rat("1"))),
		"Top":   ofTerms(bipoly.Top(long)),
		"Make":  ofTerms(bipoly.Make(long)),
	} {
		if o.err != nil || &o.numbers[0].Num[0] == &long[0].C.Num[0] || &o.numbers[0].Den[0] == &long[0].C.Den[0] {
			t.Errorf("%s: %v", name, o.err)
		}
	}
}
