package tower_test

import (
	"math/big"
	"math/rand"
	"testing"

	"linkwork/api"
	"linkwork/fraction"
	"linkwork/tower"
)

// P4.1: the examples of the chapter.
func TestExamples(t *testing.T) {
	two := roots("2")
	expect(t, "(1 + s)(1 - s)", mul(t, two, num("1", "1"), num("1", "-1")), num("-1"))
	inverse, err := tower.Inverse(two, num("1", "1"))
	expect(t, "Inverse(1 + s)", must(t, inverse, err), num("-1", "1"))
	if s := sign(t, two, num("3", "-2")); s != 1 {
		t.Errorf("the sign of 3 - 2 s: %d", s)
	}
	if s := sign(t, two, num("7", "-5")); s != -1 {
		t.Errorf("the sign of 7 - 5 s: %d", s)
	}
	if s := sign(t, roots("4"), num("2", "-1")); s != 0 {
		t.Errorf("the sign of 2 - s: %d", s)
	}
	inverse, err = tower.Inverse(roots("4"), num("2", "1"))
	expect(t, "Inverse(2 + s)", must(t, inverse, err), num("1/4"))
	checkRange(t, two, num("0", "1"), 3, "11/8", "3/2")
}

// expect compares a list with the wanted one.
func expect(t *testing.T, what string, got, want api.Num) {
	t.Helper()
	if !same(got, want) {
		t.Errorf("%s: %s, not %s", what, show(got), show(want))
	}
}

// checkRange checks the ends of Enclose.
func checkRange(t *testing.T, u api.Tower, a api.Num, bits int, lo, hi string) {
	t.Helper()
	r, err := tower.Enclose(u, a, bits)
	if err != nil || !sameRat(r.Lo, rat(lo)) || !sameRat(r.Hi, rat(hi)) {
		t.Errorf("Enclose(%s, %s, %d): %s..%s, %v, not %s..%s", showTower(u), show(a), bits, fraction.Text(r.Lo), fraction.Text(r.Hi), err, lo, hi)
	}
}

// P4.1: sums, products, inverses and norms are the lists of the chapter's rules, in the short form.
func TestLists(t *testing.T) {
	r := rand.New(rand.NewSource(1))
	for _, u := range append(towers(), drawnTowers(r)...) {
		count := 24 >> level(u)
		all := numbers(r, u, 2+count)
		for i, a := range all {
			checkList(t, u, a)
			for range 1 + count/4 {
				checkLists(t, u, a, all[r.Intn(len(all))])
			}
			checkLists(t, u, a, all[len(all)-1-i])
		}
	}
}

// P4.1: an inverse of a number whose conjugate has the value 0, though its norm is no list of zeros.
func TestConjugates(t *testing.T) {
	for _, c := range knownZeros() {
		a := tower.Short(c.a)
		for i := len(a) / 2; i < len(a); i++ {
			a[i] = fraction.Neg(a[i])
		}
		checkList(t, c.t, a)
		checkList(t, c.t, mul(t, c.t, a, num("3/5", "-2")))
		checkInverse(t, c.t, a)
	}
}

// checkList compares the functions of one number with the rules.
func checkList(t *testing.T, u api.Tower, a api.Num) {
	t.Helper()
	n := level(u)
	x := toModel(a, n)
	checkModel(t, "Neg", u, neg(t, u, a), modelSum(zeros(len(x)), x, -1))
	checkModel(t, "Short", u, must(t, tower.Short(a), nil), x)
	lifted, err := tower.Lift(u, a)
	if err != nil || len(lifted) != 1<<n || !same(lifted, fromModel(x)) {
		t.Fatalf("Lift(%s, %s): %s, %v", showTower(u), show(a), show(lifted), err)
	}
	if n > 0 {
		norm, err := tower.Norm(u, a)
		checkModel(t, "Norm", u, must(t, norm, err), modelNorm(u, x, n))
	}
	inverse, err := tower.Inverse(u, a)
	if realSign(realOf(u, a)) == 0 {
		if err != api.ErrZero || len(inverse) > 0 {
			t.Fatalf("Inverse(%s, %s): %s, %v", showTower(u), show(a), show(inverse), err)
		}
		return
	}
	checkModel(t, "Inverse", u, must(t, inverse, err), modelInverse(u, x))
}

// checkLists compares the functions of two numbers with the rules.
func checkLists(t *testing.T, u api.Tower, a, b api.Num) {
	t.Helper()
	n := level(u)
	x, y := toModel(a, n), toModel(b, n)
	checkModel(t, "Add", u, add(t, u, a, b), modelSum(x, y, 1))
	checkModel(t, "Sub", u, sub(t, u, a, b), modelSum(x, y, -1))
	checkModel(t, "Mul", u, mul(t, u, a, b), modelMul(u, x, y, n))
	quotient, err := tower.Div(u, a, b)
	if realSign(realOf(u, b)) == 0 {
		if err != api.ErrZero || len(quotient) > 0 {
			t.Fatalf("Div(%s, %s, %s): %s, %v", showTower(u), show(a), show(b), show(quotient), err)
		}
		return
	}
	checkModel(t, "Div", u, must(t, quotient, err), modelMul(u, x, fill(modelInverse(u, y), len(x)), n))
}

// checkModel compares a result with the short form of a list.
func checkModel(t *testing.T, what string, u api.Tower, got api.Num, want model) {
	t.Helper()
	if list := fromModel(shortModel(want)); !same(got, list) {
		t.Fatalf("%s in %s: %s, not %s", what, showTower(u), show(got), show(list))
	}
}

// P4.1: Of, Rat, Short and Lift at the edges.
func TestForms(t *testing.T) {
	expect(t, "Of(0)", tower.Of(api.Rat{}), nil)
	expect(t, "Of(-3/2)", tower.Of(rat("-3/2")), num("-3/2"))
	for _, x := range invalid() {
		expect(t, "Of of a fraction that is not valid", tower.Of(x), nil)
	}
	four := roots("4", "9 0")
	for _, c := range []struct {
		a    string
		want string
		ok   bool
	}{
		{"", "0", true}, {"0", "0", true}, {"0 0 0 0", "0", true}, {"-2/3 0", "-2/3", true}, {"5 0 0 0", "5", true},
		{"2 1", "0", false}, {"0 1", "0", false}, {"2 -1", "0", false}, {"5 0 0 1", "0", false},
	} {
		if x, ok := tower.Rat(four, list(c.a)); ok != c.ok || !sameRat(x, rat(c.want)) {
			t.Errorf("Rat of %s: %s, %v", c.a, fraction.Text(x), ok)
		}
	}
	for a, want := range map[string]string{
		"": "", "0": "", "0 0": "", "1 0": "1", "0 1": "0 1", "0 1 0 0": "0 1", "0 0 1 0": "0 0 1 0",
		"1 2 3": "1 2 3", "0 0 0": "0 0 0", "1 0 0 0 0 0": "1 0 0 0 0 0",
	} {
		expect(t, "Short of "+a, tower.Short(list(a)), list(want))
	}
	longest := make(api.Num, 32)
	longest[0] = rat("7")
	expect(t, "Short of 32 fractions", tower.Short(longest), num("7"))
	for _, n := range []int{33, 64, 128} {
		if got := tower.Short(make(api.Num, n)); len(got) != n {
			t.Errorf("Short of %d zeros has %d", n, len(got))
		}
	}
	for _, x := range invalid() {
		a := api.Num{rat("1"), x, {}, {}}
		expect(t, "Short of what is not valid", tower.Short(a), a[:2])
		expect(t, "Short of what is not valid", tower.Short(api.Num{x}), api.Num{x})
	}
	lifted, err := tower.Lift(api.Tower{}, nil)
	if err != nil || !same(lifted, num("0")) {
		t.Errorf("Lift of 0 in the empty tower: %s, %v", show(lifted), err)
	}
}

// P4.1: Root and Extend return the root's list, Extend the tower with the lifted number.
func TestRoots(t *testing.T) {
	deep := towers()[len(towers())-1]
	for k, want := range []string{"0 1", "0 0 1 0", "0 0 0 0 1 0 0 0"} {
		expect(t, "a root", root(t, deep, k), list(want))
	}
	for _, k := range []int{-1, 5, 64, 1 << 40, -1 << 63, 1<<63 - 1} {
		if a, err := tower.Root(deep, k); err != api.ErrRange || len(a) > 0 {
			t.Errorf("Root(%d): %s, %v", k, show(a), err)
		}
	}
	if a, err := tower.Root(api.Tower{}, 0); err != api.ErrRange || len(a) > 0 {
		t.Errorf("Root of the empty tower: %s, %v", show(a), err)
	}
	for _, c := range []struct{ t, want api.Tower }{
		{api.Tower{}, roots("0")},
		{roots("2"), roots("2", "0 0")},
		{roots("2", "3 0"), roots("2", "3 0", "0 0 0 0")},
	} {
		// The list of d is lifted: 0 may be given by an empty one.
		longer, s, err := tower.Extend(c.t, nil)
		if err != nil || !sameTower(longer, c.want) || !same(s, root(t, c.want, level(c.t))) {
			t.Errorf("Extend(%s, 0): %s, %s, %v", showTower(c.t), showTower(longer), show(s), err)
		}
	}
	longer, s, err := tower.Extend(roots("2"), num("1/2"))
	if err != nil || !sameTower(longer, roots("2", "1/2 0")) || !same(s, list("0 0 1 0")) {
		t.Errorf("Extend: %s, %s, %v", showTower(longer), show(s), err)
	}
	for _, d := range []api.Num{num("-1"), list("1 -1"), list("-1/1000000000000000000000000000")} {
		if longer, s, err := tower.Extend(roots("2"), d); err != api.ErrRange || level(longer) > 0 || len(s) > 0 {
			t.Errorf("Extend by %s: %s, %s, %v", show(d), showTower(longer), show(s), err)
		}
	}
	// What is below 0 is refused before the limit is looked at.
	if _, _, err := tower.Extend(deep, num("-1")); err != api.ErrRange {
		t.Errorf("Extend of a full tower by -1: %v", err)
	}
	if longer, s, err := tower.Extend(deep, num("1")); err != api.ErrLarge || level(longer) > 0 || len(s) > 0 {
		t.Errorf("Extend of a full tower by 1: %s, %s, %v", showTower(longer), show(s), err)
	}
}

// P4.1: towers have errors, root by root.
func TestTowerErrors(t *testing.T) {
	for _, u := range towers() {
		if err := tower.Check(u); err != nil {
			t.Errorf("Check(%s): %v", showTower(u), err)
		}
	}
	for _, c := range badTowers() {
		if err := tower.Check(c.t); err != c.want {
			t.Errorf("Check(%s): %v, not %v", showTower(c.t), err, c.want)
		}
	}
}

// badTower is a tower with its error.
type badTower struct {
	t    api.Tower
	want api.Errno
}

// badTowers returns towers with errors; some have several ones.
func badTowers() []badTower {
	bad := []badTower{
		{api.Tower{Roots: make([]api.Num, 6)}, api.ErrLarge},
		{api.Tower{Roots: make([]api.Num, 1000)}, api.ErrLarge},
		{roots("2", "3 0", "5 0 0 0", "7 0 0 0 0 0 0 0", "1 0 0 0 0 0 0 0 0 0 0 0 0 0 0 0", "1"), api.ErrLarge},
		{roots("-1", "", "", "", "", ""), api.ErrLarge},
		{roots(""), api.ErrShape},
		{roots("1 0"), api.ErrShape},
		{roots("2", ""), api.ErrShape},
		{roots("2", "3"), api.ErrShape},
		{roots("2", "3 0 0"), api.ErrShape},
		{roots("2", "3 0 0 0"), api.ErrShape},
		{roots("2", "3 0", "1 0"), api.ErrShape},
		{roots("-1"), api.ErrRange},
		{roots("-1/340282366920938463463374607431768211457"), api.ErrRange},
		{roots("2", "0 -1"), api.ErrRange},
		{roots("2", "1 -1"), api.ErrRange},
		{roots("2", "-3 2"), api.ErrRange},
		{roots("4", "-2 1", "1 0 0 0", "-1 0 0 0 0 0 0 0"), api.ErrRange},
		{roots("0", "-1 5"), api.ErrRange},
		{roots("2", "3 2", "1 1 -1 0", "1 1 -2 0 0 0 0 0"), api.ErrRange},
		// The first root with an error counts.
		{roots("-1", "1"), api.ErrRange},
		{roots("2", "1", "-1 0 0 0"), api.ErrShape},
	}
	for _, x := range invalid() {
		bad = append(bad,
			badTower{api.Tower{Roots: []api.Num{{x}}}, api.ErrForm},
			badTower{api.Tower{Roots: []api.Num{num("2"), {rat("-1"), x}}}, api.ErrForm},
			badTower{api.Tower{Roots: []api.Num{num("2"), {x}}}, api.ErrShape},
			badTower{api.Tower{Roots: []api.Num{num("-2"), {x, x}}}, api.ErrRange},
			badTower{api.Tower{Roots: []api.Num{{x}, num("1")}}, api.ErrForm},
		)
	}
	return bad
}

// call is a call of a function with a tower and numbers, whose other results are zero.
type call struct {
	name string
	args int
	run  func(u api.Tower, l []api.Num) (zero bool, err error)
}

// calls returns a call of each function that has errors of towers. Their further arguments have
// errors too, which count last.
func calls() []call {
	one := func(name string, f func(api.Tower, api.Num) (api.Num, error)) call {
		return call{name, 1, func(u api.Tower, l []api.Num) (bool, error) {
			c, err := f(u, l[0])
			return len(c) == 0, err
		}}
	}
	two := func(name string, f func(u api.Tower, a, b api.Num) (api.Num, error)) call {
		return call{name, 2, func(u api.Tower, l []api.Num) (bool, error) {
			c, err := f(u, l[0], l[1])
			return len(c) == 0, err
		}}
	}
	return []call{
		one("Lift", tower.Lift), one("Neg", tower.Neg), one("Inverse", tower.Inverse), one("Norm", tower.Norm),
		two("Add", tower.Add), two("Sub", tower.Sub), two("Mul", tower.Mul), two("Div", tower.Div),
		{"Sign", 1, func(u api.Tower, l []api.Num) (bool, error) {
			s, err := tower.Sign(u, l[0])
			return s == 0, err
		}},
		{"Cmp", 2, func(u api.Tower, l []api.Num) (bool, error) {
			s, err := tower.Cmp(u, l[0], l[1])
			return s == 0, err
		}},
		{"Root", 0, func(u api.Tower, _ []api.Num) (bool, error) {
			a, err := tower.Root(u, 77)
			return len(a) == 0, err
		}},
		{"Extend", 1, func(u api.Tower, l []api.Num) (bool, error) {
			longer, s, err := tower.Extend(u, l[0])
			return level(longer) == 0 && len(s) == 0, err
		}},
		{"Enclose", 1, func(u api.Tower, l []api.Num) (bool, error) {
			r, err := tower.Enclose(u, l[0], 65)
			return sameRat(r.Lo, api.Rat{}) && sameRat(r.Hi, api.Rat{}), err
		}},
	}
}

// P4.1: all functions return the errors of the tower first, whatever the numbers are.
func TestTowersFirst(t *testing.T) {
	bad := api.Num{{Neg: true}, {}, {}}
	for _, c := range badTowers() {
		for _, f := range calls() {
			for _, a := range []api.Num{nil, num("-1"), bad} {
				if zero, err := f.run(c.t, []api.Num{a, a}); err != c.want || !zero {
					t.Errorf("%s in %s of %v: %v, not %v", f.name, showTower(c.t), a, err, c.want)
				}
			}
		}
		for _, a := range []api.Num{nil, num("-1"), bad} {
			if x, ok := tower.Rat(c.t, a); ok || nonzero(x) || tower.Valid(c.t, a) {
				t.Errorf("Rat and Valid in %s", showTower(c.t))
			}
		}
	}
}

// badNumber is a number with its error in the tower of the roots of 2 and 3.
type badNumber struct {
	a    api.Num
	want api.Errno
}

func badNumbers() []badNumber {
	bad := []badNumber{
		{make(api.Num, 3), api.ErrShape},
		{make(api.Num, 5), api.ErrShape},
		{make(api.Num, 8), api.ErrShape},
		{make(api.Num, 64), api.ErrShape},
	}
	for _, x := range invalid() {
		bad = append(bad,
			badNumber{api.Num{x}, api.ErrForm},
			badNumber{api.Num{{}, x}, api.ErrForm},
			badNumber{api.Num{rat("1"), {}, {}, x}, api.ErrForm},
			badNumber{api.Num{x, {}, {}}, api.ErrShape},
			badNumber{api.Num{x, {}, {}, {}, {}, {}, {}, {}}, api.ErrShape},
		)
	}
	return bad
}

// P4.1: all functions return the errors of the numbers, in order, before any other ones.
func TestNumberErrors(t *testing.T) {
	u := roots("2", "3 0")
	all := badNumbers()
	for i, c := range all {
		if x, ok := tower.Rat(u, c.a); ok || nonzero(x) || tower.Valid(u, c.a) {
			t.Errorf("Rat and Valid of %v", c.a)
		}
		for _, f := range calls() {
			if f.args == 0 {
				continue
			}
			for _, second := range []api.Num{nil, num("1"), all[len(all)-1-i].a} {
				if zero, err := f.run(u, []api.Num{c.a, second}); err != c.want || !zero {
					t.Errorf("%s of %v: %v, not %v", f.name, c.a, err, c.want)
				}
			}
			if f.args == 2 {
				for _, first := range []api.Num{nil, num("1"), list("1 2 3 4")} {
					if zero, err := f.run(u, []api.Num{first, c.a}); err != c.want || !zero {
						t.Errorf("%s with the second number %v: %v, not %v", f.name, c.a, err, c.want)
					}
				}
			}
		}
	}
	if _, err := tower.Norm(api.Tower{}, num("1", "2")); err != api.ErrShape {
		t.Errorf("Norm of a wrong number in the empty tower: %v", err)
	}
}

// P4.1: the errors that follow those of tower and numbers.
func TestOtherErrors(t *testing.T) {
	if a, err := tower.Norm(api.Tower{}, num("1")); err != api.ErrState || len(a) > 0 {
		t.Errorf("Norm: %s, %v", show(a), err)
	}
	for _, bits := range []int{-1, 65, 1 << 40, -1 << 63, 1<<63 - 1} {
		if r, err := tower.Enclose(roots("2"), num("0", "1"), bits); err != api.ErrRange || nonzero(r.Lo) || nonzero(r.Hi) {
			t.Errorf("Enclose for %d bits: %v, %v", bits, r, err)
		}
	}
	for _, bits := range []int{0, 1, 64} {
		if _, err := tower.Enclose(roots("2"), num("0", "1"), bits); err != nil {
			t.Errorf("Enclose for %d bits: %v", bits, err)
		}
	}
	// A number may have the value 0 without being a list of zeros.
	for _, c := range []struct {
		t api.Tower
		a string
	}{{roots("4"), "2 -1"}, {roots("0"), "0 3"}, {roots("2", "3 2"), "1 1 -1 0"}, {api.Tower{}, ""}, {api.Tower{}, "0"}} {
		if x, err := tower.Inverse(c.t, list(c.a)); err != api.ErrZero || len(x) > 0 {
			t.Errorf("Inverse of %s: %s, %v", c.a, show(x), err)
		}
		if x, err := tower.Div(c.t, num("1"), list(c.a)); err != api.ErrZero || len(x) > 0 {
			t.Errorf("Div by %s: %s, %v", c.a, show(x), err)
		}
	}
}

// scratch overwrites the memory of numbers, behind their end too.
func scratch(numbers ...api.Num) {
	for _, a := range numbers {
		a = a[:cap(a)]
		for i := range a {
			for _, words := range [][]uint32{a[i].Num, a[i].Den} {
				words = words[:cap(words)]
				for k := range words {
					words[k] = 0xdeadbeef
				}
			}
			a[i] = api.Rat{Neg: true}
		}
	}
}

// P4.1: results share no memory with the arguments, nor with one another; arguments stay as they are.
func TestMemory(t *testing.T) {
	r := rand.New(rand.NewSource(2))
	for _, u := range append(towers(), drawnTowers(r)...) {
		for range 4 {
			a, b := drawNum(r, level(u), 200), drawNum(r, level(u), 20)
			kept, keptA, keptB := copyTower(u), copyNum(a), copyNum(b)
			for _, f := range results() {
				first := f(u, a, b)
				var want []api.Num
				for _, c := range first {
					want = append(want, copyNum(c))
				}
				for i, c := range first {
					scratch(c)
					for k := i + 1; k < len(first); k++ {
						if !same(first[k], want[k]) {
							t.Fatalf("results share memory in %s", showTower(u))
						}
					}
				}
				if !sameTower(u, kept) || !same(a, keptA) || !same(b, keptB) {
					t.Fatalf("an argument was changed in %s", showTower(kept))
				}
				for i, c := range f(u, a, b) {
					if !same(c, want[i]) {
						t.Fatalf("another result in %s: %s, then %s", showTower(u), show(want[i]), show(c))
					}
				}
			}
		}
	}
}

// results returns functions that return all numbers in the results of a function of the package,
// each fraction as a number of its own.
func results() []func(u api.Tower, a, b api.Num) []api.Num {
	pieces := func(l ...api.Num) []api.Num {
		var all []api.Num
		for _, a := range l {
			for i := range a {
				all = append(all, a[i:i+1:i+1])
			}
		}
		return all
	}
	return []func(u api.Tower, a, b api.Num) []api.Num{
		func(u api.Tower, a, b api.Num) []api.Num { c, _ := tower.Lift(u, a); return pieces(c) },
		func(u api.Tower, a, b api.Num) []api.Num { c, _ := tower.Neg(u, a); return pieces(c) },
		func(u api.Tower, a, b api.Num) []api.Num { c, _ := tower.Add(u, a, b); return pieces(c) },
		func(u api.Tower, a, b api.Num) []api.Num { c, _ := tower.Add(u, a, nil); return pieces(c) },
		func(u api.Tower, a, b api.Num) []api.Num { c, _ := tower.Sub(u, a, b); return pieces(c) },
		func(u api.Tower, a, b api.Num) []api.Num { c, _ := tower.Mul(u, a, b); return pieces(c) },
		func(u api.Tower, a, b api.Num) []api.Num { c, _ := tower.Mul(u, a, num("1")); return pieces(c) },
		func(u api.Tower, a, b api.Num) []api.Num { c, _ := tower.Div(u, a, b); return pieces(c) },
		func(u api.Tower, a, b api.Num) []api.Num { c, _ := tower.Div(u, a, num("1")); return pieces(c) },
		func(u api.Tower, a, b api.Num) []api.Num { c, _ := tower.Inverse(u, b); return pieces(c) },
		func(u api.Tower, a, b api.Num) []api.Num { c, _ := tower.Norm(u, a); return pieces(c) },
		func(u api.Tower, a, b api.Num) []api.Num { return pieces(tower.Short(a)) },
		func(u api.Tower, a, b api.Num) []api.Num { return pieces(tower.Short(append(num("1", "0"), a...))) },
		func(u api.Tower, a, b api.Num) []api.Num {
			x, _ := tower.Rat(u, a)
			return pieces(api.Num{x})
		},
		func(u api.Tower, a, b api.Num) []api.Num {
			if len(a) == 0 {
				return nil
			}
			return pieces(tower.Of(a[0]))
		},
		func(u api.Tower, a, b api.Num) []api.Num {
			var all []api.Num
			for k := range u.Roots {
				c, _ := tower.Root(u, k)
				all = append(all, c)
			}
			return pieces(all...)
		},
		func(u api.Tower, a, b api.Num) []api.Num {
			longer, s, _ := tower.Extend(u, a)
			return pieces(append(longer.Roots, s)...)
		},
		func(u api.Tower, a, b api.Num) []api.Num {
			c, _ := tower.Enclose(u, a, 20)
			return pieces(api.Num{c.Lo, c.Hi})
		},
		func(u api.Tower, a, b api.Num) []api.Num {
			// Nothing to overwrite: these must only leave their arguments alone.
			tower.Sign(u, a)
			tower.Cmp(u, a, b)
			tower.Valid(u, a)
			tower.Check(u)
			return nil
		},
	}
}

// unit returns 2^-bits.
func unit(bits int) api.Rat {
	return fromBig(new(big.Rat).SetFrac(big.NewInt(1), new(big.Int).Lsh(big.NewInt(1), uint(bits))))
}
