package turn_test

import (
	"math/big"
	"math/rand"
	"slices"
	"testing"

	"linkwork/api"
	"linkwork/fraction"
	"linkwork/turn"
)

// rat returns the fraction of a text.
func rat(s string) api.Rat {
	x, err := fraction.Parse(s)
	if err != nil {
		panic(s + " is no fraction")
	}
	return x
}

// of returns the turn with the tangent of a text, or half a turn.
func of(s string) api.Turn {
	if s == "half" {
		return api.Turn{Half: true}
	}
	return api.Turn{T: rat(s)}
}

// place returns the place with the coordinates of two texts.
func place(x, y string) api.Place {
	return api.Place{X: rat(x), Y: rat(y)}
}

// toBig returns the number of x, which has to be valid.
func toBig(t *testing.T, x api.Rat) *big.Rat {
	t.Helper()
	b, ok := new(big.Rat).SetString(fraction.Text(x))
	if !ok || !fraction.Valid(x) {
		t.Fatalf("a fraction is not valid: %v", x)
	}
	return b
}

// show returns the text of a.
func show(a api.Turn) string {
	if a.Half {
		return "half"
	}
	return fraction.Text(a.T)
}

// showPlace returns the text of p.
func showPlace(p api.Place) string {
	return "(" + fraction.Text(p.X) + ", " + fraction.Text(p.Y) + ")"
}

// sameRat reports whether the fields of x and y are equal.
func sameRat(x, y api.Rat) bool {
	return x.Neg == y.Neg && slices.Equal(x.Num, y.Num) && slices.Equal(x.Den, y.Den)
}

// sameTurn reports whether the fields of a and b are equal.
func sameTurn(a, b api.Turn) bool {
	return a.Half == b.Half && sameRat(a.T, b.T)
}

// samePlace reports whether the fields of p and q are equal.
func samePlace(p, q api.Place) bool {
	return sameRat(p.X, q.X) && sameRat(p.Y, q.Y)
}

// Functions of the package without the error, for arguments that have none.

func cos(t *testing.T, a api.Turn) api.Rat      { t.Helper(); return must[api.Rat](t)(turn.Cos(a)) }
func sin(t *testing.T, a api.Turn) api.Rat      { t.Helper(); return must[api.Rat](t)(turn.Sin(a)) }
func back(t *testing.T, c, s api.Rat) api.Turn  { t.Helper(); return must[api.Turn](t)(turn.Of(c, s)) }
func toward(t *testing.T, p api.Place) api.Turn { t.Helper(); return must[api.Turn](t)(turn.Toward(p)) }
func add(t *testing.T, a, b api.Turn) api.Turn  { t.Helper(); return must[api.Turn](t)(turn.Add(a, b)) }
func neg(t *testing.T, a api.Turn) api.Turn     { t.Helper(); return must[api.Turn](t)(turn.Neg(a)) }
func compare(t *testing.T, a, b api.Turn) int   { t.Helper(); return must[int](t)(turn.Cmp(a, b)) }
func inside(t *testing.T, a, b, x api.Turn) bool {
	t.Helper()
	return must[bool](t)(turn.Inside(a, b, x))
}
func between(t *testing.T, a, b api.Turn) api.Turn {
	t.Helper()
	return must[api.Turn](t)(turn.Between(a, b))
}
func text(t *testing.T, a api.Turn) string  { t.Helper(); return must[string](t)(turn.Text(a)) }
func parse(t *testing.T, s string) api.Turn { t.Helper(); return must[api.Turn](t)(turn.Parse(s)) }
func apply(t *testing.T, a api.Turn, p api.Place) api.Place {
	t.Helper()
	return must[api.Place](t)(turn.Apply(a, p))
}

// must returns a value that came without an error.
func must[V any](t *testing.T) func(v V, err error) V {
	return func(v V, err error) V {
		t.Helper()
		if err != nil {
			t.Fatalf("an error: %v", err)
		}
		return v
	}
}

// expect compares what a call of some turns returns with what is wanted.
func expect[V comparable](t *testing.T, what string, got, want V, turns ...api.Turn) {
	t.Helper()
	if got != want {
		var texts []string
		for _, a := range turns {
			texts = append(texts, show(a))
		}
		t.Fatalf("%s of %v: %v, not %v", what, texts, got, want)
	}
}

// expectRat compares a fraction with the wanted number.
func expectRat(t *testing.T, what string, got api.Rat, want *big.Rat) {
	t.Helper()
	if b := toBig(t, got); b.Cmp(want) != 0 {
		t.Fatalf("%s: %v, not %v", what, b, want)
	}
}

// expectTurn compares a turn, all fields of it, with the wanted one.
func expectTurn(t *testing.T, what string, got, want api.Turn) {
	t.Helper()
	if !sameTurn(got, want) {
		t.Fatalf("%s: %v (%s), not %s", what, got, show(got), show(want))
	}
}

// expectPlace compares a place, all fields of it, with the wanted one.
func expectPlace(t *testing.T, what string, got, want api.Place) {
	t.Helper()
	if !samePlace(got, want) {
		t.Fatalf("%s: %v (%s), not %s", what, got, showPlace(got), showPlace(want))
	}
}

// badRats returns fractions that are not valid.
func badRats() []api.Rat {
	return []api.Rat{
		{Neg: true},
		{Num: []uint32{1}},
		{Den: []uint32{1}},
		{Num: []uint32{0}, Den: []uint32{1}},
		{Num: []uint32{1, 0}, Den: []uint32{1}},
		{Num: []uint32{1}, Den: []uint32{0}},
		{Num: []uint32{6}, Den: []uint32{4}},
		{Neg: true, Num: []uint32{3}, Den: []uint32{3}},
		{Num: []uint32{3, 3, 3}, Den: []uint32{5, 5, 5}},
	}
}

// badTurns returns turns that have an error.
func badTurns() []api.Turn {
	all := []api.Turn{{T: rat("1"), Half: true}, {T: rat("-1/2"), Half: true}, {T: rat("18446744073709551616"), Half: true}}
	for _, x := range badRats() {
		all = append(all, api.Turn{T: x}, api.Turn{T: x, Half: true})
	}
	return all
}

// edges returns turns of all kinds with ascending angles: the bounds of the quarters, turns close to these
// and to one another, and turns between them.
func edges() []api.Turn {
	var all []api.Turn
	for _, s := range []string{
		"0", "1/340282366920938463463374607431768211456", "1/4294967296", "1/4294967295", "1/7", "1/3", "1/2", "2/3",
		"18446744073709551615/18446744073709551616", "1", "18446744073709551617/18446744073709551616", "3/2", "2", "3", "7",
		"4294967295", "4294967296", "340282366920938463463374607431768211456",
		"half", "-340282366920938463463374607431768211456", "-4294967296", "-4294967295", "-7", "-3", "-2", "-3/2",
		"-18446744073709551617/18446744073709551616", "-1", "-18446744073709551615/18446744073709551616", "-2/3", "-1/2",
		"-1/3", "-1/7", "-1/4294967295", "-1/4294967296", "-1/340282366920938463463374607431768211456",
	} {
		all = append(all, of(s))
	}
	return all
}

// drawRat returns a fraction whose parts have at most some bits.
func drawRat(r *rand.Rand, bits int) api.Rat {
	size := new(big.Int).Lsh(big.NewInt(1), uint(r.Intn(bits+1)))
	n, d := new(big.Int).Rand(r, size), new(big.Int).Rand(r, size)
	b := new(big.Rat).SetFrac(n, d.Add(d, big.NewInt(1)))
	if r.Intn(2) == 0 {
		b.Neg(b)
	}
	return rat(b.RatString())
}

// drawPlace returns a place whose coordinates have at most some bits in their parts; often on an axis.
func drawPlace(r *rand.Rand, bits int) api.Place {
	p := api.Place{X: drawRat(r, bits), Y: drawRat(r, bits)}
	switch r.Intn(8) {
	case 0:
		p.X = api.Rat{}
	case 1:
		p.Y = api.Rat{}
	}
	return p
}

// drawTurns returns some turns, with at most some bits in the parts of the tangents; often ones whose sum
// or difference with another one is one of the bounds of the quarters.
func drawTurns(r *rand.Rand, n, bits int) []api.Turn {
	l := make([]api.Turn, n)
	around := edges()
	for i := range l {
		l[i] = api.Turn{T: drawRat(r, bits)}
		if i == 0 {
			continue
		}
		other := l[r.Intn(i)]
		switch r.Intn(12) {
		case 0:
			l[i] = around[r.Intn(len(around))]
		case 1:
			l[i] = other
		case 2:
			l[i] = api.Turn{T: fraction.Neg(other.T), Half: other.Half}
		case 3:
			l[i] = inverse(other)
		case 4:
			l[i] = inverse(other)
			l[i].T = fraction.Neg(l[i].T)
		}
	}
	return l
}

// inverse returns the turn with 1 / T: with a it makes half a turn.
func inverse(a api.Turn) api.Turn {
	if a.Half {
		return api.Turn{}
	}
	x, err := fraction.Div(fraction.Of(1), a.T)
	return api.Turn{T: x, Half: err != nil}
}
