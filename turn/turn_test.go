package turn_test

import (
	"math/rand"
	"testing"

	"linkwork/api"
	"linkwork/fraction"
	"linkwork/turn"
)

// P12.1: the examples of the chapter.
func TestExamples(t *testing.T) {
	if c, s := cos(t, of("1/2")), sin(t, of("1/2")); !sameRat(c, rat("3/5")) || !sameRat(s, rat("4/5")) {
		t.Errorf("cosine and sine: %v, %v", c, s)
	}
	expectTurn(t, "Add", add(t, of("1"), of("1")), of("half"))
	expectTurn(t, "Add", add(t, of("half"), of("1")), of("-1"))
	expectTurn(t, "Between", between(t, of("0"), of("half")), of("1"))
}

// P12.1: Check accepts a valid T, and only 0 beside Half.
func TestCheck(t *testing.T) {
	empty := api.Rat{Num: []uint32{}, Den: []uint32{}}
	for _, a := range append(edges(), api.Turn{}, api.Turn{T: empty}, api.Turn{T: empty, Half: true}) {
		if err := turn.Check(a); err != nil {
			t.Errorf("Check(%v): %v", a, err)
		}
	}
	for _, a := range badTurns() {
		if err := turn.Check(a); err != api.ErrForm {
			t.Errorf("Check(%v): %v", a, err)
		}
	}
}

// P12.1: cosines and sines that are known, and Of and Toward, which lead back to the turn.
func TestDirections(t *testing.T) {
	for _, c := range []struct{ turn, cos, sin string }{
		{"0", "1", "0"}, {"1", "0", "1"}, {"half", "-1", "0"}, {"-1", "0", "-1"},
		{"1/2", "3/5", "4/5"}, {"1/3", "4/5", "3/5"}, {"2", "-3/5", "4/5"}, {"3", "-4/5", "3/5"},
		{"-2", "-3/5", "-4/5"}, {"-3", "-4/5", "-3/5"}, {"-1/2", "3/5", "-4/5"}, {"-1/3", "4/5", "-3/5"},
		{"2/3", "5/13", "12/13"}, {"-3/2", "-5/13", "-12/13"},
		{"1/4294967296", "18446744073709551615/18446744073709551617", "8589934592/18446744073709551617"},
		{"-4294967296", "-18446744073709551615/18446744073709551617", "-8589934592/18446744073709551617"},
	} {
		a := of(c.turn)
		if x, y := cos(t, a), sin(t, a); !sameRat(x, rat(c.cos)) || !sameRat(y, rat(c.sin)) {
			t.Errorf("%s: %s", c.turn, showPlace(api.Place{X: x, Y: y}))
		}
		expectTurn(t, "Of", back(t, rat(c.cos), rat(c.sin)), a)
	}
}

// P12.1: Of refuses everything that is not on the circle, however close it is.
func TestOfErrors(t *testing.T) {
	for _, c := range [][2]string{
		{"0", "0"}, {"1", "1"}, {"-1", "-1"}, {"1/2", "1/2"}, {"2", "0"}, {"0", "-2"}, {"4/5", "4/5"}, {"-3/5", "3/5"}, {"3", "4"},
		{"1", "1/340282366920938463463374607431768211456"}, {"-1", "-1/340282366920938463463374607431768211456"},
		{"340282366920938463463374607431768211457/340282366920938463463374607431768211456", "0"},
		{"0", "-340282366920938463463374607431768211455/340282366920938463463374607431768211456"},
		{"665857/941664", "665857/941664"}, // close to half of an angle of a quarter
	} {
		if a, err := turn.Of(rat(c[0]), rat(c[1])); err != api.ErrForm || !sameTurn(a, api.Turn{}) {
			t.Errorf("Of(%s, %s): %v, %v", c[0], c[1], a, err)
		}
	}
}

// P12.1: Toward doubles the angle of a place, whatever its distance is.
func TestToward(t *testing.T) {
	for _, c := range []struct{ x, y, want string }{
		{"1", "0", "0"}, {"-1", "0", "0"}, {"0", "1", "half"}, {"0", "-1", "half"}, {"1", "1", "1"}, {"-1", "-1", "1"},
		{"-1", "1", "-1"}, {"1", "-1", "-1"}, {"2", "1", "1/2"}, {"-2", "-1", "1/2"}, {"1", "2", "2"}, {"-1", "2", "-2"},
		{"3/2", "1/6", "1/9"}, {"-3/2", "1/6", "-1/9"}, {"1/7", "-5/14", "-5/2"},
		{"0", "1/18446744073709551616", "half"}, {"-18446744073709551616", "0", "0"},
		{"18446744073709551616", "1/18446744073709551616", "1/340282366920938463463374607431768211456"},
	} {
		expectTurn(t, "Toward("+c.x+", "+c.y+")", toward(t, place(c.x, c.y)), of(c.want))
	}
	if a, err := turn.Toward(api.Place{}); err != api.ErrZero || !sameTurn(a, api.Turn{}) {
		t.Errorf("Toward the origin: %v, %v", a, err)
	}
	r := rand.New(rand.NewSource(1))
	for i := range 1000 {
		p := drawPlace(r, 1+i%150)
		if x, y := toBig(t, p.X), toBig(t, p.Y); x.Sign() != 0 || y.Sign() != 0 {
			expectTurn(t, "Toward"+showPlace(p), toward(t, p), towardModel(x, y).turn())
		}
	}
}

// P12.1: sums that are known, with the exceptions around half a turn.
func TestAdd(t *testing.T) {
	for _, c := range [][3]string{
		{"0", "0", "0"}, {"0", "5/3", "5/3"}, {"0", "half", "half"}, {"half", "half", "0"}, {"half", "1", "-1"}, {"half", "-1", "1"},
		{"half", "2/3", "-3/2"}, {"half", "-2/3", "3/2"}, {"1", "1", "half"}, {"-1", "-1", "half"}, {"2", "1/2", "half"},
		{"-3/7", "-7/3", "half"}, {"1", "-1", "0"}, {"1/2", "1/3", "1"}, {"1/2", "1/2", "4/3"}, {"2", "3", "-1"}, {"-2", "-3", "1"},
		{"2", "2", "-4/3"}, {"1/5", "-3", "-7/4"}, {"-1", "2", "1/3"},
	} {
		expectTurn(t, c[0]+" and "+c[1], add(t, of(c[0]), of(c[1])), of(c[2]))
		expectTurn(t, c[1]+" and "+c[0], add(t, of(c[1]), of(c[0])), of(c[2]))
	}
	for _, c := range [][2]string{{"0", "0"}, {"half", "half"}, {"1", "-1"}, {"-5/3", "5/3"}, {"4294967296", "-4294967296"}} {
		expectTurn(t, "Neg of "+c[0], neg(t, of(c[0])), of(c[1]))
	}
}

// P12.1: arcs that are known: short and long ones, over the angle 0, the whole circle, and their ends.
func TestInside(t *testing.T) {
	for _, c := range []struct {
		a, b, x string
		want    bool
	}{
		{"0", "1", "1/2", true}, {"0", "1", "0", true}, {"0", "1", "1", true}, {"0", "1", "2", false}, {"0", "1", "half", false},
		{"0", "1", "-1", false}, {"0", "1", "-1/9", false}, {"1", "0", "1/2", false}, {"1", "0", "0", true}, {"1", "0", "1", true},
		{"1", "0", "2", true}, {"1", "0", "half", true}, {"1", "0", "-1/9", true},
		{"1", "-1", "half", true}, {"1", "-1", "-2", true}, {"1", "-1", "2", true}, {"1", "-1", "0", false}, {"1", "-1", "1/2", false},
		{"-1", "1", "half", false}, {"-1", "1", "-2", false}, {"-1", "1", "0", true}, {"-1", "1", "1/2", true}, {"-1", "1", "-1/2", true},
		{"half", "0", "-1", true}, {"half", "0", "half", true}, {"half", "0", "0", true}, {"half", "0", "1", false},
		{"0", "half", "1", true}, {"0", "half", "-1", false}, {"0", "half", "half", true}, {"-2", "-1", "-3/2", true}, {"-2", "-1", "-3", false},
		{"-1", "-2", "-3/2", false}, {"-1", "-2", "half", true}, {"-1", "-2", "-1", true}, {"-1", "-2", "-2", true},
		{"1", "1", "1", true}, {"1", "1", "-1", true}, {"1", "1", "0", true}, {"half", "half", "0", true}, {"0", "0", "half", true},
		{"-1", "-1", "5", true}, {"0", "0", "-7", true},
		{"0", "1", "18446744073709551615/18446744073709551616", true}, {"0", "1", "18446744073709551617/18446744073709551616", false},
	} {
		expect(t, "Inside", inside(t, of(c.a), of(c.b), of(c.x)), c.want, of(c.a), of(c.b), of(c.x))
	}
}

// P12.1: places between that are known, in all cases of the chapter.
func TestBetween(t *testing.T) {
	for _, c := range [][3]string{
		{"0", "half", "1"}, {"half", "0", "-1"}, {"1", "-1", "half"}, {"-1", "1", "0"}, {"2", "-1/2", "-3"}, // half a turn
		{"0", "1/2", "1/4"}, {"0", "1", "1/2"}, {"1", "half", "3"}, {"half", "-1", "-2"}, {"-1", "0", "-1/3"}, {"0", "2", "1"}, // less
		{"1", "0", "-1"}, {"0", "-1", "half"}, {"-1", "half", "1"}, {"half", "2", "0"}, {"1/2", "0", "-2"}, {"2", "1", "-1/2"}, // more
		{"0", "0", "half"}, {"half", "half", "0"}, {"1", "1", "-1"}, {"-2", "-2", "1/2"}, // the whole circle
	} {
		expectTurn(t, "Between "+c[0]+" and "+c[1], between(t, of(c[0]), of(c[1])), of(c[2]))
	}
}

// P12.1: places that are known.
func TestApply(t *testing.T) {
	for _, c := range [][5]string{
		{"0", "2", "-3", "2", "-3"}, {"1", "2", "-3", "3", "2"}, {"half", "2", "-3", "-2", "3"}, {"-1", "2", "-3", "-3", "-2"},
		{"1/2", "5", "0", "3", "4"}, {"1/2", "0", "5", "-4", "3"}, {"-1/2", "1/3", "1/7", "11/35", "-19/105"}, {"2", "0", "0", "0", "0"},
	} {
		expectPlace(t, "Apply of "+c[0], apply(t, of(c[0]), place(c[1], c[2])), place(c[3], c[4]))
	}
}

// P12.1: all functions against the definitions of the chapter, over math/big.
func TestDefinitions(t *testing.T) {
	r := rand.New(rand.NewSource(2))
	for i := range 1500 {
		l := drawTurns(r, 3, 1+i%90)
		checkOne(t, l[0], drawPlace(r, 1+i%90))
		checkThree(t, l[0], l[1], l[2])
	}
}

// P12.1: the same for all bounds, and for all that is close to them.
func TestEdges(t *testing.T) {
	p, all := place("-3/7", "22/4294967297"), edges()
	for i, a := range all {
		checkOne(t, a, p)
		for _, b := range all {
			for _, x := range []api.Turn{{}, {Half: true}, of("-1"), of("-18446744073709551617/18446744073709551616"), all[(i+1)%len(all)]} {
				checkThree(t, a, b, x)
			}
		}
	}
}

// checkOne compares the functions of one turn with the model.
func checkOne(t *testing.T, a api.Turn, p api.Place) {
	t.Helper()
	m := modelOf(t, a)
	c, s := m.cosSin()
	expectRat(t, "Cos of "+show(a), cos(t, a), c)
	expectRat(t, "Sin of "+show(a), sin(t, a), s)
	expectTurn(t, "Neg of "+show(a), neg(t, a), m.neg().turn())
	q := apply(t, a, p)
	x, y := m.apply(toBig(t, p.X), toBig(t, p.Y))
	expectRat(t, "X of Apply", q.X, x)
	expectRat(t, "Y of Apply", q.Y, y)
	want := "half"
	if m.t != nil {
		want = m.t.RatString()
	}
	expect(t, "Text", text(t, a), want, a)
}

// checkThree compares the functions of two and three turns with the model.
func checkThree(t *testing.T, a, b, x api.Turn) {
	t.Helper()
	m, n, o := modelOf(t, a), modelOf(t, b), modelOf(t, x)
	expectTurn(t, "Add of "+show(a)+" and "+show(b), add(t, a, b), m.add(n).turn())
	expect(t, "Cmp", compare(t, a, b), m.cmp(n), a, b)
	expect(t, "Inside", inside(t, a, b, x), m.inside(n, o), a, b, x)
	expectTurn(t, "Between of "+show(a)+" and "+show(b), between(t, a, b), m.between(n).turn())
}

// P12.1: fractions that are not valid count as 0 where fractions and places are arguments.
func TestInvalidFractions(t *testing.T) {
	one := fraction.Of(1)
	for _, bad := range badRats() {
		expectTurn(t, "Of", back(t, one, bad), of("0"))
		expectTurn(t, "Of", back(t, fraction.Of(-1), bad), of("half"))
		expectTurn(t, "Of", back(t, bad, one), of("1"))
		expectTurn(t, "Of", back(t, bad, fraction.Of(-1)), of("-1"))
		if a, err := turn.Of(bad, bad); err != api.ErrForm || !sameTurn(a, api.Turn{}) {
			t.Errorf("Of(%v, %v): %v, %v", bad, bad, a, err)
		}
		expectTurn(t, "Toward", toward(t, api.Place{X: fraction.Of(-3), Y: bad}), of("0"))
		expectTurn(t, "Toward", toward(t, api.Place{X: bad, Y: fraction.Of(-3)}), of("half"))
		if a, err := turn.Toward(api.Place{X: bad, Y: bad}); err != api.ErrZero || !sameTurn(a, api.Turn{}) {
			t.Errorf("Toward(%v, %v): %v, %v", bad, bad, a, err)
		}
		expectPlace(t, "Apply", apply(t, of("1/2"), api.Place{X: fraction.Of(5), Y: bad}), place("3", "4"))
		expectPlace(t, "Apply", apply(t, of("1/2"), api.Place{X: bad, Y: fraction.Of(5)}), place("-4", "3"))
		expectPlace(t, "Apply", apply(t, of("1/2"), api.Place{X: bad, Y: bad}), place("0", "0"))
	}
}
