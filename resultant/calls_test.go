package resultant_test

import (
	"math/rand"
	"slices"
	"testing"

	"linkwork/api"
	"linkwork/resultant"
)

// outcome is what a call returns: all fractions of its results, its answer, its error.
type outcome struct {
	numbers []api.Rat
	ok      bool
	err     error
}

// ofTwo calls each function of two polynomials that is not Accepts.
func ofTwo(p, q api.Poly) map[string]outcome {
	rows, sylvester := resultant.Sylvester(p, q)
	r, found := resultant.Resultant(p, q)
	u, v, g, bezout := resultant.Bezout(p, q)
	return map[string]outcome{
		"Sylvester": {slices.Concat(rows...), len(rows) > 0, sylvester},
		"Resultant": {[]api.Rat{r}, false, found},
		"Bezout":    {slices.Concat(u, v, g), false, bezout},
	}
}

// ofOne calls Discriminant.
func ofOne(p api.Poly) map[string]outcome {
	d, err := resultant.Discriminant(p)
	return map[string]outcome{"Discriminant": {[]api.Rat{d}, false, err}}
}

// ofFive calls Accepts.
func ofFive(p, q, u, v, g api.Poly) map[string]outcome {
	ok, err := resultant.Accepts(p, q, u, v, g)
	return map[string]outcome{"Accepts": {nil, ok, err}}
}

// expectAll checks that all calls have an error and no other result.
func expectAll(t *testing.T, calls map[string]outcome, want error) {
	t.Helper()
	for name, o := range calls {
		if o.err != want || o.ok {
			t.Fatalf("%s: %v, %v, not %v", name, o.ok, o.err, want)
		}
		for _, x := range o.numbers {
			if !sameRat(x, api.Rat{}) {
				t.Fatalf("%s: %s beside %v", name, show(o.numbers), want)
			}
		}
	}
}

// refused returns lists that are no polynomials, with their errors.
func refused() map[api.Errno][]api.Poly {
	wrong := badRats()
	all := map[api.Errno][]api.Poly{
		api.ErrLarge: {longest(65), make(api.Poly, 66), append(longest(70), wrong...)},
		api.ErrZero:  {list("0"), list("1 0"), make(api.Poly, 65), append(longest(40), api.Rat{})},
	}
	for _, bad := range wrong {
		all[api.ErrForm] = append(all[api.ErrForm], api.Poly{bad}, api.Poly{bad, rat("1")}, api.Poly{bad, {}})
	}
	return all
}

// P8.1: the errors of the polynomials come first, those of the first one before those of the second.
func TestPolysFirst(t *testing.T) {
	accepted := append(edges(), nil, longest(64))
	for want, lists := range refused() {
		for _, bad := range lists {
			expectAll(t, ofOne(bad), want)
			for _, p := range accepted {
				expectAll(t, ofTwo(bad, p), want)
				expectAll(t, ofTwo(p, bad), want)
			}
			for _, others := range refused() {
				for _, other := range others {
					expectAll(t, ofTwo(bad, other), want)
				}
			}
		}
	}
}

// P8.1: Accepts looks at all five polynomials, one after the other, and then at the products.
func TestFivePolys(t *testing.T) {
	x, high := list("0 1"), longest(64)
	for want, lists := range refused() {
		for _, bad := range lists {
			for i := range 5 {
				for _, good := range []api.Poly{nil, x, high} {
					l := [5]api.Poly{good, good, good, good, good}
					l[i] = bad
					expectAll(t, ofFive(l[0], l[1], l[2], l[3], l[4]), want)
					for _, others := range refused() {
						for k := i + 1; k < 5; k++ {
							l[k] = others[0]
						}
						expectAll(t, ofFive(l[0], l[1], l[2], l[3], l[4]), want)
					}
				}
			}
		}
	}
}

// scratch overwrites the words of a fraction.
func scratch(x api.Rat) {
	for _, words := range [][]uint32{x.Num, x.Den} {
		words = words[:cap(words)]
		for i := range words {
			words[i] = 0xdeadbeef
		}
	}
}

// copyList returns l in memory of its own.
func copyList(l []api.Rat) []api.Rat {
	var c []api.Rat
	for _, x := range l {
		c = append(c, api.Rat{Neg: x.Neg, Num: slices.Clone(x.Num), Den: slices.Clone(x.Den)})
	}
	return c
}

// checkOwn checks that the numbers of results share no memory with the arguments, nor with one another.
func checkOwn(t *testing.T, calls map[string]outcome, arguments ...[]api.Rat) {
	t.Helper()
	kept := map[string][]api.Rat{}
	for name, o := range calls {
		kept[name] = copyList(o.numbers)
	}
	for _, l := range arguments {
		for i := range l {
			scratch(l[i])
			l[i] = api.Rat{Neg: true}
		}
	}
	for name, o := range calls {
		for i, x := range o.numbers {
			if !sameRat(x, kept[name][i]) {
				t.Fatalf("%s shares memory: %s", name, show(kept[name]))
			}
			scratch(x)
		}
	}
}

// P8.1: arguments are not changed, and results share no memory with them nor with one another.
func TestMemory(t *testing.T) {
	r := rand.New(rand.NewSource(40))
	for i, pair := range pairs(t, r) {
		if i%3 > 0 {
			continue
		}
		for _, x := range [][2]api.Poly{pair, {pair[0], pair[0]}, {pair[0], list("1")}, {pair[0], nil}, {nil, pair[0]}} {
			p, q := copyList(x[0]), copyList(x[1])
			two, one := ofTwo(p, q), ofOne(p)
			resultant.Accepts(p, q, p, q, p)
			expect(t, "an argument", p, x[0])
			expect(t, "an argument", q, x[1])
			checkOwn(t, one)
			checkOwn(t, two, p, q)
		}
		p := copyList(pair[0])
		checkOwn(t, ofTwo(p, p), p)
		p = copyList(pair[0])
		checkOwn(t, ofOne(p), p)
	}
}

// P8.1: the rows of the matrix are slices of their own.
func TestRows(t *testing.T) {
	rows := must[[][]api.Rat](t)(resultant.Sylvester(list("3 2 1"), list("5 4")))
	for i, want := range []string{"[1 2 3]", "[4 5 0]", "[0 4 5]"} {
		if show(rows[i]) != want {
			t.Errorf("row %d: %s, not %s", i, show(rows[i]), want)
		}
		rows[i] = append(rows[i], rat("7"))
		clear(rows[i])
	}
}
