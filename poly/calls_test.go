package poly_test

import (
	"math/rand"
	"testing"

	"linkwork/api"
	"linkwork/fraction"
	"linkwork/poly"
)

// outcome is what a call returns: all fractions of its results, its text, its error.
type outcome struct {
	numbers []api.Rat
	text    string
	err     error
}

// ofOne calls each function of one polynomial.
func ofOne(p api.Poly, x, y api.Rat) map[string]outcome {
	check := poly.Check(p)
	scaled, scale := poly.Scale(p, x)
	slope, derive := poly.Derive(p)
	at, eval := poly.Eval(p, x)
	values, over := poly.Over(p, api.Range{Lo: fraction.Min(x, y), Hi: fraction.Max(x, y)})
	free, freed := poly.Free(p)
	text, texted := poly.Text(p)
	return map[string]outcome{
		"Check":  {nil, "", check},
		"Scale":  {scaled, "", scale},
		"Derive": {slope, "", derive},
		"Eval":   {[]api.Rat{at}, "", eval},
		"Over":   {[]api.Rat{values.Lo, values.Hi}, "", over},
		"Free":   {free, "", freed},
		"Text":   {nil, text, texted},
	}
}

// ofTwo calls each function of two polynomials.
func ofTwo(p, q api.Poly) map[string]outcome {
	sum, add := poly.Add(p, q)
	difference, sub := poly.Sub(p, q)
	product, mul := poly.Mul(p, q)
	quotient, rest, div := poly.Div(p, q)
	common, gcd := poly.Gcd(p, q)
	composed, compose := poly.Compose(p, q)
	return map[string]outcome{
		"Add":     {sum, "", add},
		"Sub":     {difference, "", sub},
		"Mul":     {product, "", mul},
		"Div":     {append(quotient, rest...), "", div},
		"Gcd":     {common, "", gcd},
		"Compose": {composed, "", compose},
	}
}

// refused returns lists that are no polynomials, with their errors.
func refused() map[api.Errno][]api.Poly {
	wrong := badRats()
	all := map[api.Errno][]api.Poly{
		api.ErrLarge: {longest(65), make(api.Poly, 66), append(longest(70), wrong...)},
		api.ErrZero:  {list("0"), list("1 0"), make(api.Poly, 65)},
	}
	for _, bad := range wrong {
		all[api.ErrForm] = append(all[api.ErrForm], api.Poly{bad}, api.Poly{bad, num("1")}, api.Poly{bad, {}})
	}
	return all
}

// expectAll checks that all calls have an error and no other result.
func expectAll(t *testing.T, calls map[string]outcome, want api.Errno) {
	t.Helper()
	for name, o := range calls {
		if o.err != want || o.text != "" {
			t.Fatalf("%s: %q, %v, not %v", name, o.text, o.err, want)
		}
		for _, x := range o.numbers {
			if !sameRat(x, api.Rat{}) {
				t.Fatalf("%s: %v beside %v", name, o.numbers, want)
			}
		}
	}
}

// P5.1: the errors of the polynomials come first, those of the first one before those of the second.
func TestPolysFirst(t *testing.T) {
	accepted := append(edges(), longest(64))
	for want, lists := range refused() {
		for _, bad := range lists {
			expectAll(t, ofOne(bad, num("2"), num("3")), want)
			expectAll(t, ofOne(bad, badRats()[0], num("3")), want)
			for _, p := range accepted {
				expectAll(t, ofTwo(bad, p), want)
				expectAll(t, ofTwo(p, bad), want)
			}
			for _, others := range refused() {
				for _, other := range others {
					expectAll(t, ofTwo(bad, other), want)
				}
			}
		}
	}
}

// scratch overwrites the words of a fraction.
func scratch(x api.Rat) {
	for _, words := range [][]uint32{x.Num, x.Den} {
		words = words[:cap(words)]
		for i := range words {
			words[i] = 0xdeadbeef
		}
	}
}

// checkOwn checks that the numbers of results share no memory with the arguments, nor with one another.
func checkOwn(t *testing.T, calls map[string]outcome, arguments ...[]api.Rat) {
	t.Helper()
	kept := map[string]api.Poly{}
	for name, o := range calls {
		kept[name] = copyPoly(o.numbers)
	}
	for _, l := range arguments {
		for i := range l {
			scratch(l[i])
			l[i] = api.Rat{Neg: true}
		}
	}
	for name, o := range calls {
		for i, x := range o.numbers {
			if !sameRat(x, kept[name][i]) {
				t.Fatalf("%s shares memory: %s", name, show(kept[name]))
			}
			scratch(x)
			if i+1 < len(o.numbers) && !sameRat(o.numbers[i+1], kept[name][i+1]) {
				t.Fatalf("the numbers of %s share memory: %s", name, show(kept[name]))
			}
		}
	}
}

// P5.1: arguments are not changed, and results share no memory with them nor with one another.
func TestMemory(t *testing.T) {
	r := rand.New(rand.NewSource(5))
	for i, pair := range pairs(t, r) {
		if i%4 > 0 {
			continue
		}
		p, q, x, y := copyPoly(pair[0]), copyPoly(pair[1]), drawRat(r, 90), drawRat(r, 40)
		numbers := []api.Rat{copyRat(x), copyRat(y)}
		one, two := ofOne(p, x, y), ofTwo(p, q)
		expect(t, "an argument", p, pair[0])
		expect(t, "an argument", q, pair[1])
		expect(t, "an argument", api.Poly{x, y}, numbers)
		checkOwn(t, one, p, []api.Rat{x, y})
		checkOwn(t, two, q)
		p = copyPoly(pair[0])
		checkOwn(t, ofTwo(p, p), p)
		p = copyPoly(pair[0])
		checkOwn(t, ofTwo(p, nil), p)
		p = copyPoly(pair[0])
		checkOwn(t, ofTwo(p, list("1")), p)
		p = copyPoly(pair[0])
		checkOwn(t, map[string]outcome{"Trim": {poly.Trim(p), "", nil}}, p)
	}
}

// P5.1: the same for Through.
func TestMemoryOfThrough(t *testing.T) {
	r := rand.New(rand.NewSource(6))
	for i := range 100 {
		x := points(r, i%9, 3+i)
		y := make([]api.Rat, len(x))
		for k := range y {
			y[k] = drawRat(r, 3+i)
		}
		keptX, keptY := copyPoly(x), copyPoly(y)
		p, err := poly.Through(x, y)
		expect(t, "an argument", x, keptX)
		expect(t, "an argument", y, keptY)
		checkOwn(t, map[string]outcome{"Through": {p, "", err}}, x, y)
	}
}
