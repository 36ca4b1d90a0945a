package line_test

import (
	"math/rand"
	"slices"
	"strconv"
	"testing"

	"linkwork/api"
	"linkwork/line"
	"linkwork/tower"
)

// outcome is what a call returns: all numbers of its results, an int (1 for true), its error.
type outcome struct {
	numbers []api.Num
	n       int
	err     error
}

// call is a function of the package as one of a tower and some numbers.
type call struct {
	name    string
	numbers int
	of      func(u api.Tower, l []api.Num) outcome
}

// calls returns all functions.
func calls() []call {
	aPoint := func(p api.Point, err error) outcome { return outcome{ofPoint(p), 0, err} }
	aLine := func(l api.Line, err error) outcome { return outcome{ofLine(l), 0, err} }
	aProj := func(p api.Proj, err error) outcome { return outcome{ofProj(p), 0, err} }
	holds := func(is bool, err error) outcome {
		if is {
			return outcome{nil, 1, err}
		}
		return outcome{err: err}
	}
	return []call{
		{"Through", 4, func(u api.Tower, l []api.Num) outcome { return aLine(line.Through(u, asPoint(l), asPoint(l[2:]))) }},
		{"Side", 5, func(u api.Tower, l []api.Num) outcome {
			n, err := line.Side(u, asLine(l), asPoint(l[3:]))
			return outcome{nil, n, err}
		}},
		{"Foot", 5, func(u api.Tower, l []api.Num) outcome { return aPoint(line.Foot(u, asLine(l), asPoint(l[3:]))) }},
		{"Parallel", 6, func(u api.Tower, l []api.Num) outcome { return holds(line.Parallel(u, asLine(l), asLine(l[3:]))) }},
		{"Meet", 6, func(u api.Tower, l []api.Num) outcome { return aProj(line.Meet(u, asLine(l), asLine(l[3:]))) }},
		{"Join", 6, func(u api.Tower, l []api.Num) outcome { return aLine(line.Join(u, asProj(l), asProj(l[3:]))) }},
		{"On", 6, func(u api.Tower, l []api.Num) outcome { return holds(line.On(u, asLine(l), asProj(l[3:]))) }},
		{"Of", 2, func(u api.Tower, l []api.Num) outcome { return aProj(line.Of(u, asPoint(l))) }},
		{"Proper", 3, func(u api.Tower, l []api.Num) outcome { return aPoint(line.Proper(u, asProj(l))) }},
		{"Same", 6, func(u api.Tower, l []api.Num) outcome { return holds(line.Same(u, asProj(l), asProj(l[3:]))) }},
		{"Collinear", 9, func(u api.Tower, l []api.Num) outcome {
			return holds(line.Collinear(u, asProj(l), asProj(l[3:]), asProj(l[6:])))
		}},
	}
}

// badRats returns fractions that are not valid.
func badRats() []api.Rat {
	return []api.Rat{
		{Neg: true},
		{Num: []uint32{1}},
		{Den: []uint32{1}},
		{Num: []uint32{0}, Den: []uint32{1}},
		{Num: []uint32{1, 0}, Den: []uint32{1}},
		{Num: []uint32{1}, Den: []uint32{0}},
		{Num: []uint32{6}, Den: []uint32{4}},
		{Neg: true, Num: []uint32{3}, Den: []uint32{3}},
	}
}

// badNumbers returns lists that are no numbers of a tower with one root, with their errors.
func badNumbers() map[api.Errno][]api.Num {
	bad := badRats()[0]
	all := map[api.Errno][]api.Num{
		api.ErrShape: {num("1 2 3"), num("0 0 0 0"), make(api.Num, 5), make(api.Num, 64), {bad, {}, {}}},
	}
	for _, x := range badRats() {
		all[api.ErrForm] = append(all[api.ErrForm], api.Num{x}, api.Num{{}, x})
	}
	return all
}

// badTowers returns towers with their errors.
func badTowers() map[api.Errno][]api.Tower {
	bad := badRats()[0]
	return map[api.Errno][]api.Tower{
		api.ErrLarge: {{Roots: make([]api.Num, 6)}, {Roots: []api.Num{{bad}, nil, nil, nil, nil, nil}}},
		api.ErrShape: {{Roots: make([]api.Num, 5)}, roots("2", "3"), roots("2 1"), {Roots: []api.Num{{bad, {}}}}},
		api.ErrForm:  {{Roots: []api.Num{{bad}}}, {Roots: []api.Num{num("2"), {{}, badRats()[6]}, num("1")}}},
		api.ErrRange: {roots("-1"), roots("2", "1 -1"), roots("4", "-2 0", "1")},
	}
}

// expectError checks that a call has an error and no other result.
func expectError(t *testing.T, c call, u api.Tower, l []api.Num, want error) {
	t.Helper()
	o := c.of(u, l)
	if o.err != want {
		t.Fatalf("%s: %v, not %v", c.name, o.err, want)
	}
	if o.n != 0 || slices.ContainsFunc(o.numbers, func(a api.Num) bool { return len(a) > 0 }) {
		t.Fatalf("%s: %v and %d beside %v", c.name, o.numbers, o.n, want)
	}
}

// apart returns n numbers of some length, of which no function returns an error.
func apart(n, length int) []api.Num {
	l := make([]api.Num, n)
	for i := range l {
		l[i] = make(api.Num, length)
		l[i][0] = rat(strconv.Itoa(i*i + 1))
	}
	return l
}

// P13.1: all functions return the errors of the tower first, whatever their numbers are.
func TestTowersFirst(t *testing.T) {
	for want, towers := range badTowers() {
		for _, u := range towers {
			for _, c := range calls() {
				expectError(t, c, u, make([]api.Num, c.numbers), want)
				expectError(t, c, u, slices.Repeat([]api.Num{num("1")}, c.numbers), want)
				expectError(t, c, u, apart(c.numbers, 1), want)
				for _, numbers := range badNumbers() {
					expectError(t, c, u, slices.Repeat(numbers[:1], c.numbers), want)
				}
			}
		}
	}
}

// P13.1: then those of the numbers, in their order, and before all other errors.
func TestNumbersNext(t *testing.T) {
	u := roots("2")
	for want, numbers := range badNumbers() {
		for _, bad := range numbers {
			for _, c := range calls() {
				// With equal numbers, and with zeros, most functions have an error of their own.
				equal := slices.Repeat([]api.Num{num("0 1")}, c.numbers)
				for _, good := range [][]api.Num{apart(c.numbers, 2), equal, make([]api.Num, c.numbers)} {
					for k := range c.numbers {
						l := slices.Clone(good)
						l[k] = bad
						expectError(t, c, u, l, want)
						for _, others := range badNumbers() {
							for i := k + 1; i < c.numbers; i++ {
								l[i] = others[i%len(others)]
							}
							expectError(t, c, u, l, want)
						}
					}
				}
			}
		}
	}
}

// P13.1: numbers of all lengths that a tower has are accepted, and no others.
func TestLengths(t *testing.T) {
	u := roots("2", "3 0", "5 0 0 0", "7 0 0 0 0 0 0 0", "11 0 0 0 0 0 0 0 0 0 0 0 0 0 0 0")
	for _, c := range calls() {
		for level := range api.MaxLevel + 1 {
			l := apart(c.numbers, 1<<level)
			for _, v := range []api.Tower{u, {Roots: u.Roots[:level]}} {
				if o := c.of(v, l); o.err != nil {
					t.Errorf("%s of %d fractions: %v", c.name, 1<<level, o.err)
				}
			}
			for k := range l {
				empty := slices.Clone(l)
				empty[k] = nil
				if err := c.of(u, empty).err; err != nil && err != api.ErrInfeasible {
					t.Errorf("%s of an empty list and %d fractions: %v", c.name, 1<<level, err)
				}
				if level > 0 {
					long := apart(c.numbers, 1)
					long[k] = l[k]
					expectError(t, c, api.Tower{Roots: u.Roots[:level-1]}, long, api.ErrShape)
				}
			}
		}
	}
}

// P13.1: ErrZero and ErrInfeasible come without any other result.
func TestOwnErrors(t *testing.T) {
	u := roots("2")
	zero, same := make([]api.Num, 9), slices.Repeat([]api.Num{num("1 1")}, 9)
	null := slices.Repeat([]api.Num{num("0 0")}, 9)
	for _, c := range calls() {
		wantZero, wantSame := error(nil), error(nil)
		switch c.name {
		case "Through", "Meet", "Join":
			wantZero, wantSame = api.ErrZero, api.ErrZero
		case "Foot", "Parallel", "Same":
			wantZero = api.ErrZero
		case "Proper":
			wantZero = api.ErrInfeasible
		}
		for _, l := range [][]api.Num{zero, null} {
			if wantZero != nil {
				expectError(t, c, u, l[:c.numbers], wantZero)
			} else if err := c.of(u, l[:c.numbers]).err; err != nil {
				t.Errorf("%s of zeros: %v", c.name, err)
			}
		}
		if wantSame != nil {
			expectError(t, c, u, same[:c.numbers], wantSame)
		} else if err := c.of(u, same[:c.numbers]).err; err != nil {
			t.Errorf("%s of equal numbers: %v", c.name, err)
		}
	}
}

// scratch overwrites the memory of a number.
func scratch(a api.Num) {
	for i := range a {
		for _, words := range [][]uint32{a[i].Num, a[i].Den} {
			words = words[:cap(words)]
			for k := range words {
				words[k] = 0xdeadbeef
			}
		}
		a[i] = api.Rat{Neg: true}
	}
}

// copyNum returns a in memory of its own.
func copyNum(a api.Num) api.Num {
	var c api.Num
	for _, x := range a {
		c = append(c, api.Rat{Neg: x.Neg, Num: slices.Clone(x.Num), Den: slices.Clone(x.Den)})
	}
	return c
}

// copyAll returns some numbers in memory of their own.
func copyAll(l []api.Num) []api.Num {
	c := make([]api.Num, len(l))
	for i, a := range l {
		c[i] = copyNum(a)
	}
	return c
}

// checkOwn checks that results share no memory with the arguments, which are overwritten, nor with one
// another.
func checkOwn(t *testing.T, name string, results, arguments []api.Num) {
	t.Helper()
	kept := copyAll(results)
	for _, a := range arguments {
		scratch(a)
	}
	for i, a := range results {
		if !sameNum(a, kept[i]) {
			t.Fatalf("%s shares memory: %s", name, show(kept[i]))
		}
		scratch(a)
	}
}

// P13.1: arguments are not changed, and results share no memory with them nor with one another.
func TestMemory(t *testing.T) {
	r := rand.New(rand.NewSource(20))
	for _, s := range settings() {
		for i := range rounds(s.tower, 24) {
			for _, c := range calls() {
				l := make([]api.Num, c.numbers)
				for k := range l {
					l[k] = copyNum(drawNum(r, s, 1+i))
				}
				if i%4 == 1 {
					// The same memory more than once.
					l[c.numbers-1], l[0] = l[1], l[1]
				}
				u := api.Tower{Roots: copyAll(s.tower.Roots)}
				kept := copyAll(l)
				o := c.of(u, l)
				again := c.of(u, l)
				if !slices.EqualFunc(l, kept, sameNum) || !slices.EqualFunc(u.Roots, s.tower.Roots, sameNum) {
					t.Fatalf("%s changes its arguments", c.name)
				}
				if o.err != again.err || o.n != again.n || !slices.EqualFunc(o.numbers, again.numbers, sameNum) {
					t.Fatalf("%s is not the same again", c.name)
				}
				checkOwn(t, c.name, o.numbers, append(slices.Concat(l, u.Roots), again.numbers...))
			}
		}
	}
}

// P13.1: where nothing is to be computed the results are copies.
func TestCopies(t *testing.T) {
	const text = "340282366920938463463374607431768211457/3"
	long, one, u := num(text), num("1"), api.Tower{}
	for name, got := range map[string][]api.Num{
		"Of":                      ofProj(of(t, u, api.Point{X: long, Y: long}))[:2],
		"Proper":                  ofPoint(proper(t, u, api.Proj{X: long, Y: long, W: one})),
		"Foot of a point of line": ofPoint(foot(t, u, api.Line{A: one, B: num("-1")}, api.Point{X: long, Y: long})),
		"Meet":                    ofProj(meet(t, u, api.Line{A: one, B: num("-1")}, api.Line{C: long}))[:1],
		"Join":                    ofLine(join(t, u, api.Proj{X: one}, api.Proj{W: long}))[1:2],
	} {
		for _, a := range got {
			b := a
			if len(b) > 0 && b[0].Neg {
				b = fine(tower.Neg(u, b))
			}
			if !sameNum(b, long) {
				t.Errorf("%s: %s", name, show(a))
			}
		}
		checkOwn(t, name, got, nil)
		if !sameNum(long, num(text)) {
			t.Fatalf("%s shares memory with its argument", name)
		}
	}
}
