package turn_test

import (
	"math/rand"
	"slices"
	"strings"
	"testing"

	"linkwork/api"
	"linkwork/fraction"
	"linkwork/turn"
)

// length2 returns the square of the distance of p from the origin.
func length2(p api.Place) api.Rat {
	return fraction.Add(fraction.Mul(p.X, p.X), fraction.Mul(p.Y, p.Y))
}

// P12.2: Cos^2 + Sin^2 = 1, and Of gives the turn again; so does Toward from all places at half of the angle.
func TestCircle(t *testing.T) {
	r := rand.New(rand.NewSource(10))
	for i := range 1500 {
		for _, a := range append(drawTurns(r, 2, 1+i%150), edges()[i%len(edges())]) {
			c, s := cos(t, a), sin(t, a)
			if !sameRat(length2(api.Place{X: c, Y: s}), fraction.Of(1)) {
				t.Fatalf("%s is not on the circle", showPlace(api.Place{X: c, Y: s}))
			}
			expectTurn(t, "Of", back(t, c, s), a)
			x := drawRat(r, 60)
			if fraction.Sign(x) == 0 {
				x = fraction.Of(-3)
			}
			p := api.Place{X: x, Y: fraction.Mul(x, a.T)}
			if a.Half {
				p = api.Place{Y: x}
			}
			expectTurn(t, "Toward"+showPlace(p), toward(t, p), a)
			expectTurn(t, "Toward of the double", toward(t, api.Place{X: c, Y: s}), add(t, a, a))
		}
	}
}

// P12.2: a commutative group.
func TestGroup(t *testing.T) {
	r := rand.New(rand.NewSource(11))
	none, halves := api.Turn{}, 0
	for i := range 2000 {
		l := drawTurns(r, 3, 1+i%80)
		a, b, c := l[0], l[1], l[2]
		sum := add(t, a, b)
		expectTurn(t, "exchanged", add(t, b, a), sum)
		expectTurn(t, "associated", add(t, sum, c), add(t, a, add(t, b, c)))
		expectTurn(t, "neutral", add(t, a, none), a)
		expectTurn(t, "opposite", add(t, a, neg(t, a)), none)
		expectTurn(t, "Neg of Neg", neg(t, neg(t, a)), a)
		expectTurn(t, "taken back", add(t, sum, neg(t, b)), a)
		if sum.Half {
			halves++
		}
	}
	if halves < 50 {
		t.Errorf("too few sums are half a turn: %d", halves)
	}
}

// P12.2: Apply of a sum is Apply one after the other, keeps squared lengths, and is undone by Neg.
func TestApplied(t *testing.T) {
	r := rand.New(rand.NewSource(12))
	for i := range 1000 {
		l, p := drawTurns(r, 2, 1+i%80), drawPlace(r, 1+i%80)
		a, b := l[0], l[1]
		expectPlace(t, "one after the other", apply(t, b, apply(t, a, p)), apply(t, add(t, a, b), p))
		expectPlace(t, "undone", apply(t, neg(t, a), apply(t, a, p)), p)
		expectPlace(t, "not rotated", apply(t, api.Turn{}, p), p)
		if q := apply(t, a, p); !sameRat(length2(q), length2(p)) {
			t.Fatalf("%s to %s: another length", showPlace(p), showPlace(q))
		}
		first := apply(t, a, place("1", "0"))
		expectPlace(t, "the first direction", first, api.Place{X: cos(t, a), Y: sin(t, a)})
	}
}

// P12.3: Cmp is a total order, of the angles from 0 to less than a full turn.
func TestOrder(t *testing.T) {
	all := edges()
	for i, a := range all {
		for k, b := range all {
			expect(t, "Cmp", compare(t, a, b), min(max(i-k, -1), 1), a, b)
		}
	}
	r := rand.New(rand.NewSource(13))
	for i := range 60 {
		l := drawTurns(r, 25, 1+i%70)
		slices.SortFunc(l, func(a, b api.Turn) int { return compare(t, a, b) })
		for k, a := range l {
			for m, b := range l {
				c := compare(t, a, b)
				expect(t, "Cmp exchanged", compare(t, b, a), -c, b, a)
				expect(t, "equal", c == 0, sameTurn(a, b), a, b)
				if k < m && c > 0 {
					t.Fatalf("%s and %s are not in order", show(a), show(b))
				}
			}
		}
	}
}

// P12.3: of three different turns, x is in the arc from a to b or b in that from a to x, but not both.
func TestArcs(t *testing.T) {
	r := rand.New(rand.NewSource(14))
	found := map[bool]int{}
	for i := range 4000 {
		l := drawTurns(r, 3, 1+i%40)
		a, b, x := l[0], l[1], l[2]
		expect(t, "its start", inside(t, a, b, a), true, a, b)
		expect(t, "its end", inside(t, a, b, b), true, a, b)
		expect(t, "the whole circle", inside(t, a, a, x), true, a, x)
		if sameTurn(a, b) || sameTurn(a, x) || sameTurn(b, x) {
			continue
		}
		in := inside(t, a, b, x)
		found[in]++
		expect(t, "exchanged", inside(t, a, x, b), !in, a, b, x)
		expect(t, "the rest of the circle", inside(t, b, a, x), !in, a, b, x)
		// An arc is where it is turned to.
		by := drawTurns(r, 1, 30)[0]
		turned := inside(t, add(t, a, by), add(t, b, by), add(t, x, by))
		expect(t, "turned", turned, in, a, b, x)
	}
	if min(found[true], found[false]) < 500 {
		t.Errorf("too few kinds of arcs: %v", found)
	}
}

// P12.4: Between is in the arc, and is none of its ends.
func TestWithin(t *testing.T) {
	r := rand.New(rand.NewSource(15))
	check := func(a, b api.Turn) {
		x := between(t, a, b)
		expect(t, "Inside", inside(t, a, b, x), true, a, b, x)
		expect(t, "the start", sameTurn(x, a), false, a, b)
		expect(t, "the end", sameTurn(x, b), false, a, b)
	}
	for i := range 3000 {
		l := drawTurns(r, 2, 1+i%120)
		check(l[0], l[1])
	}
	for _, a := range edges() {
		for _, b := range edges() {
			check(a, b)
		}
	}
	// An arc of which parts are taken away again and again is never used up; the tangents double in length.
	a, b := of("1"), of("2")
	for range 9 {
		check(a, b)
		a = between(t, a, b)
	}
}

// P12.5: Parse of the Text of a turn is the turn.
func TestTexts(t *testing.T) {
	r := rand.New(rand.NewSource(16))
	for i := range 1500 {
		for _, a := range append(drawTurns(r, 2, 1+i%400), edges()[i%len(edges())]) {
			expectTurn(t, "Parse", parse(t, text(t, a)), a)
		}
	}
	for _, c := range [][2]string{
		{"half", "half"}, {"0", "0"}, {"-1", "-1"}, {"7/3", "7/3"}, {"-22/4294967297", "-22/4294967297"},
		{"0.5", "1/2"}, {"-0.25", "-1/4"}, {"1.0", "1"}, {"0.0", "0"},
	} {
		expectTurn(t, "Parse("+c[0]+")", parse(t, c[0]), of(c[1]))
		if s := text(t, of(c[1])); s != c[1] {
			t.Errorf("Text: %s, not %s", s, c[1])
		}
	}
}

// P12.5: nothing else is read, with the errors of layer 2.
func TestParseErrors(t *testing.T) {
	for _, s := range []string{
		"", " ", "Half", "HALF", "hal", "halff", " half", "half ", "-half", "half\n", "half/1", "1/half", "halfhalf", "h", "half\x00",
		"-", "-0", "01", "2/4", "1/0", "3/1", "1/-2", "+1", "1 ", "1/2/3", ".5", "5.", "inf", "1e3", "\xff",
	} {
		if a, err := turn.Parse(s); err != api.ErrForm || !sameTurn(a, api.Turn{}) {
			t.Errorf("Parse(%q): %v, %v", s, a, err)
		}
	}
	long := strings.Repeat("9", api.MaxText)
	if a, err := turn.Parse(long); err != nil || text(t, a) != long {
		t.Errorf("the longest text: %v", err)
	}
	for _, s := range []string{long + "9", strings.Repeat("half", api.MaxText/4) + "x", strings.Repeat("x", api.MaxText+1)} {
		if a, err := turn.Parse(s); err != api.ErrLarge || !sameTurn(a, api.Turn{}) {
			t.Errorf("Parse(%.20s...): %v, %v", s, a, err)
		}
	}
}
