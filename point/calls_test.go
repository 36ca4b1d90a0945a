package point_test

import (
	"math/rand"
	"slices"
	"testing"

	"linkwork/api"
	"linkwork/point"
	"linkwork/tower"
)

// outcome is what a call returns: all numbers of its results, an int (1 for true), its error.
type outcome struct {
	numbers []api.Num
	n       int
	err     error
}

// call is a function of the package as one of a tower and some numbers.
type call struct {
	name    string
	numbers int
	of      func(u api.Tower, l []api.Num) outcome
}

// calls returns all functions with a tower.
func calls() []call {
	pair := func(l []api.Num) api.Point { return api.Point{X: l[0], Y: l[1]} }
	placed := func(p api.Point, err error) outcome { return outcome{[]api.Num{p.X, p.Y}, 0, err} }
	number := func(a api.Num, err error) outcome { return outcome{[]api.Num{a}, 0, err} }
	holds := func(is bool, err error) outcome {
		if is {
			return outcome{nil, 1, err}
		}
		return outcome{err: err}
	}
	return []call{
		{"Check", 2, func(u api.Tower, l []api.Num) outcome { return outcome{err: point.Check(u, pair(l))} }},
		{"Add", 4, func(u api.Tower, l []api.Num) outcome { return placed(point.Add(u, pair(l), pair(l[2:]))) }},
		{"Sub", 4, func(u api.Tower, l []api.Num) outcome { return placed(point.Sub(u, pair(l), pair(l[2:]))) }},
		{"Scale", 3, func(u api.Tower, l []api.Num) outcome { return placed(point.Scale(u, l[0], pair(l[1:]))) }},
		{"Turn", 4, func(u api.Tower, l []api.Num) outcome { return placed(point.Turn(u, l[0], l[1], pair(l[2:]))) }},
		{"Dot", 4, func(u api.Tower, l []api.Num) outcome { return number(point.Dot(u, pair(l), pair(l[2:]))) }},
		{"Cross", 4, func(u api.Tower, l []api.Num) outcome { return number(point.Cross(u, pair(l), pair(l[2:]))) }},
		{"Dist2", 4, func(u api.Tower, l []api.Num) outcome { return number(point.Dist2(u, pair(l), pair(l[2:]))) }},
		{"Orient", 6, func(u api.Tower, l []api.Num) outcome {
			n, err := point.Orient(u, pair(l), pair(l[2:]), pair(l[4:]))
			return outcome{nil, n, err}
		}},
		{"Same", 4, func(u api.Tower, l []api.Num) outcome { return holds(point.Same(u, pair(l), pair(l[2:]))) }},
		{"Between", 6, func(u api.Tower, l []api.Num) outcome {
			return holds(point.Between(u, pair(l), pair(l[2:]), pair(l[4:])))
		}},
		{"At", 4, func(u api.Tower, l []api.Num) outcome {
			return placed(point.At(u, api.Placed{Cos: l[0], Sin: l[1], X: l[2], Y: l[3]}, rat("2"), rat("-1/3")))
		}},
	}
}

// badRats returns fractions that are not valid.
func badRats() []api.Rat {
	return []api.Rat{
		{Neg: true},
		{Num: []uint32{1}},
		{Den: []uint32{1}},
		{Num: []uint32{0}, Den: []uint32{1}},
		{Num: []uint32{1, 0}, Den: []uint32{1}},
		{Num: []uint32{1}, Den: []uint32{0}},
		{Num: []uint32{6}, Den: []uint32{4}},
		{Neg: true, Num: []uint32{3}, Den: []uint32{3}},
	}
}

// badNumbers returns lists that are no numbers of a tower with one root, with their errors.
func badNumbers() map[api.Errno][]api.Num {
	bad := badRats()[0]
	all := map[api.Errno][]api.Num{
		api.ErrShape: {num("1 2 3"), num("0 0 0 0"), make(api.Num, 5), make(api.Num, 64), {bad, {}, {}}},
	}
	for _, x := range badRats() {
		all[api.ErrForm] = append(all[api.ErrForm], api.Num{x}, api.Num{{}, x})
	}
	return all
}

// badTowers returns towers with their errors.
func badTowers() map[api.Errno][]api.Tower {
	bad := badRats()[0]
	return map[api.Errno][]api.Tower{
		api.ErrLarge: {{Roots: make([]api.Num, 6)}, {Roots: []api.Num{{bad}, nil, nil, nil, nil, nil}}},
		api.ErrShape: {{Roots: make([]api.Num, 5)}, roots("2", "3"), roots("2 1"), {Roots: []api.Num{{bad, {}}}}},
		api.ErrForm:  {{Roots: []api.Num{{bad}}}, {Roots: []api.Num{num("2"), {{}, badRats()[6]}, num("1")}}},
		api.ErrRange: {roots("-1"), roots("2", "1 -1"), roots("4", "-2 0", "1")},
	}
}

// expectError checks that a call has an error and no other result.
func expectError(t *testing.T, c call, u api.Tower, l []api.Num, want error) {
	t.Helper()
	o := c.of(u, l)
	if o.err != want {
		t.Fatalf("%s: %v, not %v", c.name, o.err, want)
	}
	if o.n != 0 || slices.ContainsFunc(o.numbers, func(a api.Num) bool { return len(a) > 0 }) {
		t.Fatalf("%s: %v and %d beside %v", c.name, o.numbers, o.n, want)
	}
}

// P11.1: all functions return the errors of the tower first, whatever their numbers are.
func TestTowersFirst(t *testing.T) {
	for want, towers := range badTowers() {
		for _, u := range towers {
			for _, c := range calls() {
				expectError(t, c, u, make([]api.Num, c.numbers), want)
				expectError(t, c, u, slices.Repeat([]api.Num{num("1")}, c.numbers), want)
				for _, numbers := range badNumbers() {
					expectError(t, c, u, slices.Repeat(numbers[:1], c.numbers), want)
				}
			}
		}
	}
}

// P11.1: then those of the numbers, in their order.
func TestNumbersNext(t *testing.T) {
	u, none := roots("2"), api.Tower{}
	for want, numbers := range badNumbers() {
		for _, bad := range numbers {
			for _, c := range calls() {
				for k := range c.numbers {
					l := slices.Repeat([]api.Num{num("0 1")}, c.numbers)
					l[k] = bad
					expectError(t, c, u, l, want)
					for _, others := range badNumbers() {
						for i := k + 1; i < c.numbers; i++ {
							l[i] = others[i%len(others)]
						}
						expectError(t, c, u, l, want)
					}
				}
			}
		}
	}
	for _, c := range calls() {
		for k := range c.numbers {
			l := make([]api.Num, c.numbers)
			l[k] = num("0 0")
			expectError(t, c, none, l, api.ErrShape)
			if o := c.of(u, l); o.err != nil {
				t.Errorf("%s: %v", c.name, o.err)
			}
		}
	}
}

// P11.1: numbers of all lengths that a tower has are accepted.
func TestLengths(t *testing.T) {
	u := roots("2", "3 0", "5 0 0 0", "7 0 0 0 0 0 0 0", "11 0 0 0 0 0 0 0 0 0 0 0 0 0 0 0")
	for _, c := range calls() {
		for level := range api.MaxLevel + 1 {
			l := slices.Repeat([]api.Num{make(api.Num, 1<<level)}, c.numbers)
			l[0] = nil
			if o := c.of(u, l); o.err != nil {
				t.Errorf("%s of %d fractions: %v", c.name, 1<<level, o.err)
			}
			if o := c.of(api.Tower{Roots: u.Roots[:level]}, l); o.err != nil {
				t.Errorf("%s of %d fractions at their level: %v", c.name, 1<<level, o.err)
			}
			if level > 0 {
				expectError(t, c, api.Tower{Roots: u.Roots[:level-1]}, l, api.ErrShape)
			}
		}
	}
}

// P11.1: fractions that are not valid count as 0 where fractions are arguments.
func TestInvalidFractions(t *testing.T) {
	u := roots("2")
	b := api.Placed{Cos: num("2"), Sin: num("0 1"), X: num("3"), Y: num("1 1")}
	for _, bad := range badRats() {
		expectPoint(t, "Of", u, point.Of(bad, rat("2")), pt("0, 2"))
		expectPoint(t, "Of", u, point.Of(rat("2"), bad), pt("2, 0"))
		expectPoint(t, "Of", u, point.Of(bad, bad), pt("0, 0"))
		expectPoint(t, "At", u, at(t, u, b, bad, rat("2")), pt("3 -2, 5 1"))
		expectPoint(t, "At", u, at(t, u, b, rat("2"), bad), pt("7, 1 3"))
		expectPoint(t, "At", u, at(t, u, b, bad, bad), pt("3, 1 1"))
	}
}

// scratch overwrites the memory of a number.
func scratch(a api.Num) {
	for i := range a {
		for _, words := range [][]uint32{a[i].Num, a[i].Den} {
			words = words[:cap(words)]
			for k := range words {
				words[k] = 0xdeadbeef
			}
		}
		a[i] = api.Rat{Neg: true}
	}
}

// copyNum returns a in memory of its own.
func copyNum(a api.Num) api.Num {
	var c api.Num
	for _, x := range a {
		c = append(c, api.Rat{Neg: x.Neg, Num: slices.Clone(x.Num), Den: slices.Clone(x.Den)})
	}
	return c
}

// copyAll returns some numbers in memory of their own.
func copyAll(l []api.Num) []api.Num {
	c := make([]api.Num, len(l))
	for i, a := range l {
		c[i] = copyNum(a)
	}
	return c
}

// checkOwn checks that results share no memory with the arguments, which are overwritten, nor with one
// another.
func checkOwn(t *testing.T, name string, results, arguments []api.Num) {
	t.Helper()
	kept := copyAll(results)
	for _, a := range arguments {
		scratch(a)
	}
	for i, a := range results {
		if !sameNum(a, kept[i]) {
			t.Fatalf("%s shares memory: %s", name, show(kept[i]))
		}
		scratch(a)
	}
}

// P11.1: arguments are not changed, and results share no memory with them nor with one another.
func TestMemory(t *testing.T) {
	r := rand.New(rand.NewSource(20))
	for _, s := range settings() {
		for i := range rounds(s.tower, 24) {
			for _, c := range calls() {
				l := make([]api.Num, c.numbers)
				for k := range l {
					l[k] = copyNum(drawNum(r, s, 1+i*2))
				}
				if i%4 == 1 {
					// The same memory more than once.
					l[c.numbers-1], l[0] = l[1], l[1]
				}
				u := api.Tower{Roots: copyAll(s.tower.Roots)}
				kept := copyAll(l)
				o := c.of(u, l)
				again := c.of(u, l)
				if !slices.EqualFunc(l, kept, sameNum) || !slices.EqualFunc(u.Roots, s.tower.Roots, sameNum) {
					t.Fatalf("%s changes its arguments", c.name)
				}
				if o.err != nil || again.err != nil || o.n != again.n || !slices.EqualFunc(o.numbers, again.numbers, sameNum) {
					t.Fatalf("%s is not the same again", c.name)
				}
				checkOwn(t, c.name, o.numbers, append(slices.Concat(l, u.Roots), again.numbers...))
			}
		}
	}
}

// P11.1: where nothing is to be computed the results are copies.
func TestCopies(t *testing.T) {
	long := num("340282366920938463463374607431768211457/3")
	one, p := num("1"), api.Point{X: long, Y: long}
	none := api.Tower{}
	body := api.Placed{Cos: one, X: nil, Y: nil}
	turned := api.Placed{X: long, Y: long}
	for name, got := range map[string]api.Point{
		"Of":                    point.Of(long[0], long[0]),
		"Add":                   plus(t, none, p, api.Point{}),
		"Add to 0":              plus(t, none, api.Point{}, p),
		"Sub":                   minus(t, none, p, api.Point{}),
		"Scale":                 scale(t, none, one, p),
		"Turn":                  turn(t, none, one, nil, p),
		"At":                    at(t, none, body, long[0], long[0]),
		"At of a body's origin": at(t, none, turned, api.Rat{}, api.Rat{}),
	} {
		if !sameNum(got.X, long) || !sameNum(got.Y, tower.Short(long)) {
			t.Errorf("%s: %s", name, showPoint(got))
		}
		checkOwn(t, name, []api.Num{got.X, got.Y}, nil)
		if !sameNum(long, num("340282366920938463463374607431768211457/3")) {
			t.Fatalf("%s shares memory with its argument", name)
		}
	}
}
