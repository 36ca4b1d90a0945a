package turn_test

import (
	"math/rand"
	"slices"
	"testing"

	"linkwork/api"
	"linkwork/turn"
)

// outcome is what a call returns: all fractions of its results, all others as a text, its error.
type outcome struct {
	rats []api.Rat
	rest string
	err  error
}

// call is a function of the package as one of some turns and a place.
type call struct {
	name  string
	turns int
	of    func(l []api.Turn, p api.Place) outcome
}

// Outcomes of all kinds of results.

func number(x api.Rat, err error) outcome { return outcome{[]api.Rat{x}, "", err} }

func placed(p api.Place, err error) outcome { return outcome{[]api.Rat{p.X, p.Y}, "", err} }

func written(s string, err error) outcome { return outcome{nil, s, err} }

func turned(a api.Turn, err error) outcome {
	if a.Half {
		return outcome{[]api.Rat{a.T}, "half", err}
	}
	return number(a.T, err)
}

func holds(is bool, err error) outcome {
	if is {
		return outcome{nil, "true", err}
	}
	return outcome{err: err}
}

func compared(n int, err error) outcome {
	return outcome{nil, map[int]string{0: "", -1: "below", 1: "above"}[n], err}
}

// calls returns all functions of turns.
func calls() []call {
	return []call{
		{"Check", 1, func(l []api.Turn, p api.Place) outcome { return outcome{err: turn.Check(l[0])} }},
		{"Cos", 1, func(l []api.Turn, p api.Place) outcome { return number(turn.Cos(l[0])) }},
		{"Sin", 1, func(l []api.Turn, p api.Place) outcome { return number(turn.Sin(l[0])) }},
		{"Add", 2, func(l []api.Turn, p api.Place) outcome { return turned(turn.Add(l[0], l[1])) }},
		{"Neg", 1, func(l []api.Turn, p api.Place) outcome { return turned(turn.Neg(l[0])) }},
		{"Cmp", 2, func(l []api.Turn, p api.Place) outcome { return compared(turn.Cmp(l[0], l[1])) }},
		{"Inside", 3, func(l []api.Turn, p api.Place) outcome { return holds(turn.Inside(l[0], l[1], l[2])) }},
		{"Between", 2, func(l []api.Turn, p api.Place) outcome { return turned(turn.Between(l[0], l[1])) }},
		{"Apply", 1, func(l []api.Turn, p api.Place) outcome { return placed(turn.Apply(l[0], p)) }},
		{"Text", 1, func(l []api.Turn, p api.Place) outcome { return written(turn.Text(l[0])) }},
	}
}

// allCalls returns the functions without turns too.
func allCalls() []call {
	return append(calls(),
		call{"Of", 0, func(l []api.Turn, p api.Place) outcome { return turned(turn.Of(p.X, p.Y)) }},
		call{"Toward", 0, func(l []api.Turn, p api.Place) outcome { return turned(turn.Toward(p)) }},
	)
}

// P12.1: all functions return the errors of their turns, with no other result, whatever is beside them.
func TestErrors(t *testing.T) {
	bad := badTurns()
	for i, wrong := range bad {
		for _, c := range calls() {
			for k := range c.turns {
				for _, other := range []api.Turn{{}, {Half: true}, of("-2/3"), bad[(i+1)%len(bad)]} {
					l := slices.Repeat([]api.Turn{other}, c.turns)
					l[k] = wrong
					for _, p := range []api.Place{{}, place("2", "1/3"), {X: badRats()[0], Y: badRats()[6]}} {
						o := c.of(l, p)
						if o.err != api.ErrForm || o.rest != "" || slices.ContainsFunc(o.rats, isSomething) {
							t.Fatalf("%s of %v: %v", c.name, l, o)
						}
					}
				}
			}
		}
	}
}

// isSomething reports whether x is not the zero value, as it is returned together with an error.
func isSomething(x api.Rat) bool {
	return x.Neg || len(x.Num) > 0 || len(x.Den) > 0
}

// copyRat returns x in memory of its own.
func copyRat(x api.Rat) api.Rat {
	return api.Rat{Neg: x.Neg, Num: slices.Clone(x.Num), Den: slices.Clone(x.Den)}
}

// copyTurns returns some turns in memory of their own.
func copyTurns(l []api.Turn) []api.Turn {
	c := make([]api.Turn, len(l))
	for i, a := range l {
		c[i] = api.Turn{T: copyRat(a.T), Half: a.Half}
	}
	return c
}

// copyPlace returns p in memory of its own.
func copyPlace(p api.Place) api.Place {
	return api.Place{X: copyRat(p.X), Y: copyRat(p.Y)}
}

// scratch overwrites all the memory of a fraction, behind the end of its words too.
func scratch(x api.Rat) {
	for _, words := range [][]uint32{x.Num, x.Den} {
		words = words[:cap(words)]
		for i := range words {
			words[i] = 0xdeadbeef
		}
	}
}

// checkOwn checks that results share no memory with the arguments, which are overwritten, nor with one
// another.
func checkOwn(t *testing.T, name string, results, arguments []api.Rat) {
	t.Helper()
	kept := make([]api.Rat, len(results))
	for i, x := range results {
		kept[i] = copyRat(x)
	}
	for _, x := range arguments {
		scratch(x)
	}
	for i, x := range results {
		if !sameRat(x, kept[i]) {
			t.Fatalf("%s shares memory: %v became %v", name, kept[i], x)
		}
		scratch(x)
	}
}

// P12.1: arguments are not changed, results share no memory with them nor with one another, and are the
// same again.
func TestMemory(t *testing.T) {
	r := rand.New(rand.NewSource(20))
	for i := range 300 {
		for _, c := range allCalls() {
			l, p := copyTurns(drawTurns(r, 3, 1+i)), copyPlace(drawPlace(r, 1+i))
			if i%3 == 0 {
				// Where nothing has to be computed, a result could be an argument.
				l[r.Intn(3)], p = api.Turn{}, []api.Place{place("1", "0"), place("0", "-1"), p}[i/3%3]
			}
			turns, at := copyTurns(l), copyPlace(p)
			o, again := c.of(l, p), c.of(l, p)
			if !slices.EqualFunc(l, turns, sameTurn) || !samePlace(p, at) {
				t.Fatalf("%s changes its arguments", c.name)
			}
			if o.err != again.err || o.rest != again.rest || !slices.EqualFunc(o.rats, again.rats, sameRat) {
				t.Fatalf("%s is not the same again", c.name)
			}
			checkOwn(t, c.name, o.rats, append(again.rats, l[0].T, l[1].T, l[2].T, p.X, p.Y))
		}
	}
}

// P12.1: values of all kinds are refused, or accepted, without a panic.
func TestAnyValues(t *testing.T) {
	r := rand.New(rand.NewSource(21))
	some := func() api.Rat {
		x := api.Rat{Neg: r.Intn(2) == 0, Num: make([]uint32, r.Intn(3)), Den: make([]uint32, r.Intn(3))}
		for _, words := range [][]uint32{x.Num, x.Den} {
			for i := range words {
				words[i] = uint32(r.Intn(4))
			}
		}
		return x
	}
	refused := 0
	for range 5000 {
		l, p := make([]api.Turn, 3), api.Place{X: some(), Y: some()}
		for i := range l {
			l[i] = api.Turn{T: some(), Half: r.Intn(3) == 0}
		}
		for _, c := range calls() {
			valid := true
			for _, a := range l[:c.turns] {
				valid = valid && turn.Check(a) == nil
			}
			if o := c.of(l, p); (o.err == nil) != valid {
				t.Fatalf("%s of %v: %v", c.name, l, o.err)
			} else if !valid {
				refused++
			}
		}
	}
	if refused == 0 || refused == 5000*len(calls()) {
		t.Errorf("refused: %d", refused)
	}
}
