package fraction_test

import (
	"math/big"
	"math/rand"
	"reflect"
	"testing"

	"linkwork/api"
	"linkwork/fraction"
	"linkwork/integer"
)

// P2.1: Valid.
func TestValid(t *testing.T) {
	for _, a := range invalid() {
		if fraction.Valid(a) {
			t.Errorf("valid: %v", a)
		}
	}
	for _, a := range append(edges(), api.Rat{Num: []uint32{}, Den: []uint32{}}, api.Rat{Num: []uint32{0, 1}, Den: []uint32{3}}) {
		if !fraction.Valid(a) {
			t.Errorf("not valid: %v", a)
		}
	}
	r := rand.New(rand.NewSource(2))
	for range 3000 {
		a := api.Rat{Neg: r.Intn(2) == 0, Num: words(drawSize(r, 150)), Den: words(drawSize(r, 150))}
		n, d := sum(a.Num), sum(a.Den)
		common := new(big.Int).GCD(nil, nil, n, d)
		want := n.Sign() > 0 && d.Sign() > 0 && common.IsInt64() && common.Int64() == 1
		if want = want || n.Sign() == 0 && d.Sign() == 0 && !a.Neg; fraction.Valid(a) != want {
			t.Fatalf("Valid(%v / %v): %v", n, d, !want)
		}
	}
}

// P2.1: Of and Make, for all kinds of ints.
func TestInts(t *testing.T) {
	ints := []int{
		0, 1, -1, 2, -2, 6, -4, 1<<31 - 1, 1 << 31, -1 << 31, 1<<32 - 1, 1 << 32, 3 << 32,
		1 << 62, 1<<63 - 1, -1<<63 + 1, -1 << 63, 3 * 5 * 7 * 11 * 13, -2 * 7 * 13,
	}
	for _, n := range ints {
		expect(t, "Of", fraction.Of(n), new(big.Rat).SetInt64(int64(n)))
		for _, d := range ints {
			a, err := fraction.Make(n, d)
			if d == 0 {
				if err != api.ErrZero || !isZero(a) {
					t.Errorf("Make(%d, 0): %v, %v", n, a, err)
				}
				continue
			}
			if err != nil {
				t.Fatalf("Make(%d, %d): %v", n, d, err)
			}
			expect(t, "Make", a, new(big.Rat).SetFrac64(int64(n), int64(d)))
		}
	}
	if fraction.MaxPower != 64 || fraction.MaxBits != 256 {
		t.Error("limits")
	}
}

// P2.1: From and Parts.
func TestFromAndParts(t *testing.T) {
	r := rand.New(rand.NewSource(3))
	for i := range 4000 {
		n, d := drawSize(r, 8+i%200), drawSize(r, 8+i%200)
		if r.Intn(2) == 0 {
			n.Neg(n)
		}
		if r.Intn(2) == 0 {
			d.Neg(d)
		}
		a, err := fraction.From(wholeOf(n), wholeOf(d))
		if d.Sign() == 0 {
			if err != api.ErrZero || !isZero(a) {
				t.Fatalf("From(%v, 0): %v, %v", n, a, err)
			}
			continue
		}
		if err != nil {
			t.Fatalf("From(%v, %v): %v", n, d, err)
		}
		want := new(big.Rat).SetFrac(n, d)
		expect(t, "From", a, want)
		num, den := fraction.Parts(a)
		if bigWhole(t, num).Cmp(want.Num()) != 0 || bigWhole(t, den).Cmp(want.Denom()) != 0 {
			t.Fatalf("Parts(%v): %v, %v", want, num, den)
		}
	}
}

// P2.1: integers that are not valid count as 0 in From.
func TestFromInvalid(t *testing.T) {
	for _, bad := range []api.Whole{{Neg: true}, {Mag: []uint32{0}}, {Mag: []uint32{5, 0}}, {Neg: true, Mag: []uint32{1, 2, 0}}} {
		for _, other := range []api.Whole{integer.Of(1), integer.Of(-3), integer.Of(1 << 40)} {
			if a, err := fraction.From(bad, other); err != nil || !isZero(a) {
				t.Errorf("From(%v, %v): %v, %v", bad, other, a, err)
			}
			if a, err := fraction.From(other, bad); err != api.ErrZero || !isZero(a) {
				t.Errorf("From(%v, %v): %v, %v", other, bad, a, err)
			}
		}
	}
}

// P2.1: functions of one fraction.
func TestOneFraction(t *testing.T) {
	for _, p := range pairs() {
		a := p[0]
		b := toBig(t, a)
		expect(t, "Neg", fraction.Neg(a), new(big.Rat).Neg(b))
		expect(t, "Abs", fraction.Abs(a), new(big.Rat).Abs(b))
		if s := fraction.Sign(a); s != b.Sign() {
			t.Fatalf("Sign(%v): %d", b, s)
		}
		if n := fraction.Bits(a); n != b.Num().BitLen()+b.Denom().BitLen() {
			t.Fatalf("Bits(%v): %d", b, n)
		}
		if s := fraction.Text(a); s != b.RatString() {
			t.Fatalf("Text(%v): %s", b, s)
		}
		if f := bigWhole(t, fraction.Floor(a)); f.Cmp(bigFloor(b)) != 0 {
			t.Fatalf("Floor(%v): %v", b, f)
		}
		n, d := fraction.Parts(a)
		if bigWhole(t, n).Cmp(b.Num()) != 0 || bigWhole(t, d).Cmp(b.Denom()) != 0 {
			t.Fatalf("Parts(%v): %v, %v", b, n, d)
		}
	}
}

// bigFloor returns the greatest integer that is at most b.
func bigFloor(b *big.Rat) *big.Int {
	return new(big.Int).Div(b.Num(), b.Denom())
}

// P2.1: functions of two fractions.
func TestTwoFractions(t *testing.T) {
	for _, p := range pairs() {
		a, b := toBig(t, p[0]), toBig(t, p[1])
		less, greater := a, b
		if a.Cmp(b) > 0 {
			less, greater = b, a
		}
		if c := fraction.Cmp(p[0], p[1]); c != a.Cmp(b) {
			t.Fatalf("Cmp(%v, %v): %d", a, b, c)
		}
		expect(t, "Min", fraction.Min(p[0], p[1]), less)
		expect(t, "Max", fraction.Max(p[0], p[1]), greater)
		expect(t, "Add", fraction.Add(p[0], p[1]), new(big.Rat).Add(a, b))
		expect(t, "Sub", fraction.Sub(p[0], p[1]), new(big.Rat).Sub(a, b))
		expect(t, "Mul", fraction.Mul(p[0], p[1]), new(big.Rat).Mul(a, b))
		q, err := fraction.Div(p[0], p[1])
		if b.Sign() == 0 {
			if err != api.ErrZero || !isZero(q) {
				t.Fatalf("Div(%v, 0): %v, %v", a, q, err)
			}
			continue
		}
		if err != nil {
			t.Fatalf("Div(%v, %v): %v", a, b, err)
		}
		expect(t, "Div", q, new(big.Rat).Quo(a, b))
	}
}

// P2.1: all powers, with 0^0 and the two errors in their order.
func TestPower(t *testing.T) {
	for _, s := range []string{"0", "1", "-1", "2/3", "-2/3", "-5", "1/2", "-4294967296/3", "340282366920938463463374607431768211455/7"} {
		a := number(t, s)
		inverse := new(big.Rat)
		if !isZero(a) {
			inverse.Inv(toBig(t, a))
		}
		up, down := big.NewRat(1, 1), big.NewRat(1, 1)
		for n := 0; n <= fraction.MaxPower; n++ {
			power, err := fraction.Power(a, n)
			if err != nil {
				t.Fatalf("Power(%s, %d): %v", s, n, err)
			}
			expect(t, "Power", power, up)
			power, err = fraction.Power(a, -n)
			if n > 0 && isZero(a) {
				if err != api.ErrZero || !isZero(power) {
					t.Fatalf("Power(0, %d): %v, %v", -n, power, err)
				}
			} else if err != nil {
				t.Fatalf("Power(%s, %d): %v", s, -n, err)
			} else {
				expect(t, "Power", power, down)
			}
			up.Mul(up, toBig(t, a))
			down.Mul(down, inverse)
		}
		for _, n := range []int{65, -65, 1 << 20, 1<<63 - 1, -1 << 63} {
			if power, err := fraction.Power(a, n); err != api.ErrRange || !isZero(power) {
				t.Errorf("Power(%s, %d): %v, %v", s, n, power, err)
			}
		}
	}
}

// P2.1: the examples of the chapter.
func TestExamples(t *testing.T) {
	a, err := fraction.Make(6, -4)
	if err != nil || fraction.Text(a) != "-3/2" {
		t.Errorf("Make: %v, %v", a, err)
	}
	if s := integer.Text(fraction.Floor(a)); s != "-2" {
		t.Errorf("Floor: %s", s)
	}
	if g, err := fraction.Grid(number(t, "1/3"), 3); err != nil || fraction.Text(g) != "1/4" {
		t.Errorf("Grid: %v, %v", g, err)
	}
	if r, ok := fraction.Root(number(t, "9/4")); !ok || fraction.Text(r) != "3/2" {
		t.Errorf("Root(9/4): %v, %v", r, ok)
	}
	if r, ok := fraction.Root(fraction.Of(2)); ok || !isZero(r) {
		t.Errorf("Root(2): %v, %v", r, ok)
	}
	if p, err := fraction.Power(number(t, "2/3"), -2); err != nil || fraction.Text(p) != "9/4" {
		t.Errorf("Power: %v, %v", p, err)
	}
	if p, err := fraction.Parse("-0.25"); err != nil || fraction.Text(p) != "-1/4" {
		t.Errorf("Parse: %v, %v", p, err)
	}
	if n := fraction.Bits(api.Rat{}); n != 1 {
		t.Errorf("Bits(0): %d", n)
	}
}

// P2.1: an argument that is not valid counts as 0.
func TestInvalidCountsAsZero(t *testing.T) {
	zero, other := api.Rat{}, number(t, "-5/3")
	one := []func(a api.Rat) any{
		func(a api.Rat) any { n, d := fraction.Parts(a); return [2]any{n, d} },
		func(a api.Rat) any { return fraction.Neg(a) },
		func(a api.Rat) any { return fraction.Abs(a) },
		func(a api.Rat) any { return fraction.Sign(a) },
		func(a api.Rat) any { p, err := fraction.Power(a, 2); return [2]any{p, err} },
		func(a api.Rat) any { p, err := fraction.Power(a, 0); return [2]any{p, err} },
		func(a api.Rat) any { p, err := fraction.Power(a, -1); return [2]any{p, err} },
		func(a api.Rat) any { return fraction.Floor(a) },
		func(a api.Rat) any { g, err := fraction.Grid(a, 9); return [2]any{g, err} },
		func(a api.Rat) any { r, ok := fraction.Root(a); return [2]any{r, ok} },
		func(a api.Rat) any { return fraction.Bits(a) },
		func(a api.Rat) any { return fraction.Text(a) },
	}
	two := []func(a, b api.Rat) any{
		func(a, b api.Rat) any { return fraction.Cmp(a, b) },
		func(a, b api.Rat) any { return fraction.Min(a, b) },
		func(a, b api.Rat) any { return fraction.Max(a, b) },
		func(a, b api.Rat) any { return fraction.Add(a, b) },
		func(a, b api.Rat) any { return fraction.Sub(a, b) },
		func(a, b api.Rat) any { return fraction.Mul(a, b) },
		func(a, b api.Rat) any { q, err := fraction.Div(a, b); return [2]any{q, err} },
	}
	for _, bad := range append(invalid(), api.Rat{Num: []uint32{}, Den: []uint32{}}) {
		for i, f := range one {
			if got, want := f(bad), f(zero); !reflect.DeepEqual(got, want) {
				t.Errorf("function %d of %v: %v, not %v", i, bad, got, want)
			}
		}
		for i, f := range two {
			for _, x := range [][4]api.Rat{{bad, other, zero, other}, {other, bad, other, zero}, {bad, bad, zero, zero}} {
				if got, want := f(x[0], x[1]), f(x[2], x[3]); !reflect.DeepEqual(got, want) {
					t.Errorf("function %d of %v: %v, not %v", i, x, got, want)
				}
			}
		}
	}
}

// P2.1 with rule 3: arguments are not changed, and results share no memory with them or with each other.
func TestMemory(t *testing.T) {
	r := rand.New(rand.NewSource(4))
	for i := range 400 {
		a, b := draw(r, 20+i%200), draw(r, 20+i%200)
		if i%4 == 0 {
			b = fraction.Of(1 + i%8/4)
		}
		n, d := wholeOf(drawSize(r, 90)), wholeOf(new(big.Int).Add(drawSize(r, 90), big.NewInt(1)))
		before := []string{toBig(t, a).String(), toBig(t, b).String(), bigWhole(t, n).String(), bigWhole(t, d).String()}
		results := outcomes(a, b, n, d)
		after := []string{toBig(t, a).String(), toBig(t, b).String(), bigWhole(t, n).String(), bigWhole(t, d).String()}
		if !reflect.DeepEqual(before, after) {
			t.Fatalf("changed arguments: %v to %v", before, after)
		}
		copies := make([]string, len(results))
		for i, x := range results {
			copies[i] = sum(x).String()
		}
		for _, x := range [][]uint32{a.Num, a.Den, b.Num, b.Den, n.Mag, d.Mag} {
			scratch(x)
		}
		for i, x := range results {
			if s := sum(x).String(); s != copies[i] {
				t.Fatalf("result %d for %v shares memory: %s became %s", i, before, copies[i], s)
			}
			scratch(x)
		}
	}
}

// outcomes returns the words of many results.
func outcomes(a, b api.Rat, n, d api.Whole) [][]uint32 {
	one, zero := fraction.Of(1), api.Rat{}
	from, _ := fraction.From(n, d)
	whole, _ := fraction.From(n, integer.Of(1))
	quotient, _ := fraction.Div(a, b)
	same, _ := fraction.Div(a, one)
	inverse, _ := fraction.Div(one, a)
	first, _ := fraction.Power(a, 1)
	turned, _ := fraction.Power(a, -1)
	third, _ := fraction.Power(a, 3)
	grid, _ := fraction.Grid(a, 70)
	root, _ := fraction.Root(fraction.Mul(a, a))
	all := [][]uint32{fraction.Floor(a).Mag, fraction.Floor(b).Mag}
	top, bottom := fraction.Parts(a)
	all = append(all, top.Mag, bottom.Mag)
	for _, x := range []api.Rat{
		from, whole, quotient, same, inverse, first, turned, third, grid, root,
		fraction.Neg(a), fraction.Abs(a), fraction.Min(a, b), fraction.Max(a, b), fraction.Min(a, a), fraction.Max(a, a),
		fraction.Add(a, b), fraction.Add(a, zero), fraction.Add(zero, a), fraction.Sub(a, b), fraction.Sub(a, zero),
		fraction.Sub(zero, a), fraction.Mul(a, b), fraction.Mul(a, one), fraction.Mul(one, a),
	} {
		all = append(all, x.Num, x.Den)
	}
	return all
}
