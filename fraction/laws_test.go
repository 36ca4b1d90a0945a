package fraction_test

import (
	"math/big"
	"math/rand"
	"testing"

	"linkwork/api"
	"linkwork/fraction"
)

// P2.2: the laws of an ordered field.
func TestField(t *testing.T) {
	r := rand.New(rand.NewSource(5))
	around := edges()
	for i := range 6000 {
		var x [3]api.Rat
		for k := range x {
			if r.Intn(3) == 0 {
				x[k] = around[r.Intn(len(around))]
			} else {
				x[k] = draw(r, 10+i%120)
			}
		}
		checkSums(t, x[0], x[1], x[2])
		checkProducts(t, x[0], x[1], x[2])
		checkQuotients(t, x[0], x[1], x[2])
		checkOrder(t, x[0], x[1], x[2])
	}
}

// equal checks that a and b are equal, as numbers and by their fields.
func equal(t *testing.T, law string, a, b api.Rat) {
	t.Helper()
	if toBig(t, a).Cmp(toBig(t, b)) != 0 || fraction.Cmp(a, b) != 0 || !same(a, b) {
		t.Fatalf("%s: %v is not %v", law, a, b)
	}
}

func checkSums(t *testing.T, a, b, c api.Rat) {
	t.Helper()
	equal(t, "a + b = b + a", fraction.Add(a, b), fraction.Add(b, a))
	equal(t, "(a + b) + c = a + (b + c)", fraction.Add(fraction.Add(a, b), c), fraction.Add(a, fraction.Add(b, c)))
	equal(t, "a + 0 = a", fraction.Add(a, api.Rat{}), a)
	equal(t, "a + -a = 0", fraction.Add(a, fraction.Neg(a)), api.Rat{})
	equal(t, "a - b = a + -b", fraction.Sub(a, b), fraction.Add(a, fraction.Neg(b)))
	equal(t, "(a + b) - b = a", fraction.Sub(fraction.Add(a, b), b), a)
}

func checkProducts(t *testing.T, a, b, c api.Rat) {
	t.Helper()
	equal(t, "a b = b a", fraction.Mul(a, b), fraction.Mul(b, a))
	equal(t, "(a b) c = a (b c)", fraction.Mul(fraction.Mul(a, b), c), fraction.Mul(a, fraction.Mul(b, c)))
	equal(t, "a 1 = a", fraction.Mul(a, fraction.Of(1)), a)
	equal(t, "a 0 = 0", fraction.Mul(a, api.Rat{}), api.Rat{})
	equal(t, "a (b + c) = a b + a c", fraction.Mul(a, fraction.Add(b, c)), fraction.Add(fraction.Mul(a, b), fraction.Mul(a, c)))
	if fraction.Sign(fraction.Mul(a, b)) != fraction.Sign(a)*fraction.Sign(b) {
		t.Fatalf("the sign of %v times %v", a, b)
	}
}

func checkQuotients(t *testing.T, a, b, c api.Rat) {
	t.Helper()
	if fraction.Sign(b) == 0 {
		return
	}
	equal(t, "(a / b) b = a", fraction.Mul(over(t, a, b), b), a)
	equal(t, "a b / b = a", over(t, fraction.Mul(a, b), b), a)
	equal(t, "b / b = 1", over(t, b, b), fraction.Of(1))
	equal(t, "a / b = a (1 / b)", over(t, a, b), fraction.Mul(a, over(t, fraction.Of(1), b)))
	equal(t, "(a + c) / b = a / b + c / b", over(t, fraction.Add(a, c), b), fraction.Add(over(t, a, b), over(t, c, b)))
}

// over returns a / b.
func over(t *testing.T, a, b api.Rat) api.Rat {
	t.Helper()
	q, err := fraction.Div(a, b)
	if err != nil {
		t.Fatalf("Div(%v, %v): %v", a, b, err)
	}
	return q
}

func checkOrder(t *testing.T, a, b, c api.Rat) {
	t.Helper()
	order := fraction.Cmp(a, b)
	if order != -fraction.Cmp(b, a) || order != fraction.Sign(fraction.Sub(a, b)) || fraction.Cmp(a, a) != 0 {
		t.Fatalf("the order of %v and %v", a, b)
	}
	if order <= 0 && fraction.Cmp(b, c) <= 0 && fraction.Cmp(a, c) > 0 {
		t.Fatalf("the order of %v, %v and %v", a, b, c)
	}
	if fraction.Cmp(fraction.Add(a, c), fraction.Add(b, c)) != order {
		t.Fatalf("the order of %v and %v, both plus %v", a, b, c)
	}
	if fraction.Cmp(fraction.Mul(a, c), fraction.Mul(b, c)) != order*fraction.Sign(c) {
		t.Fatalf("the order of %v and %v, both times %v", a, b, c)
	}
	equal(t, "the lesser plus the greater one", fraction.Add(fraction.Min(a, b), fraction.Max(a, b)), fraction.Add(a, b))
}

// P2.3: a number has one valid form, in whatever way it is calculated; different numbers have different ones.
func TestOneForm(t *testing.T) {
	r := rand.New(rand.NewSource(6))
	for i := range 3000 {
		bits := 8 + i%250
		want := drawBig(r, bits)
		factor := new(big.Int).Add(drawSize(r, bits), big.NewInt(1))
		if r.Intn(2) == 0 {
			factor.Neg(factor)
		}
		n, d := new(big.Int).Mul(want.Num(), factor), new(big.Int).Mul(want.Denom(), factor)
		made, err := fraction.From(wholeOf(n), wholeOf(d))
		if err != nil {
			t.Fatal(err)
		}
		read, err := fraction.Parse(want.RatString())
		if err != nil {
			t.Fatal(err)
		}
		other := draw(r, bits)
		way := fraction.Sub(fraction.Add(made, other), other)
		for _, a := range []api.Rat{made, read, way, fraction.Neg(fraction.Neg(made))} {
			if !same(a, fromBig(want)) || !fraction.Valid(a) {
				t.Fatalf("%v has the form %v", want, a)
			}
		}
		if same(made, other) != (toBig(t, made).Cmp(toBig(t, other)) == 0) || same(made, other) != (fraction.Cmp(made, other) == 0) {
			t.Fatalf("the forms of %v and %v", made, other)
		}
	}
	for _, zero := range []api.Rat{fraction.Of(0), fraction.Neg(api.Rat{}), fraction.Sub(fraction.Of(-7), fraction.Of(-7)), fraction.Mul(api.Rat{}, fraction.Of(-1))} {
		if !isZero(zero) {
			t.Errorf("a form of 0: %v", zero)
		}
	}
}

// P2.4: Root returns the root of each square, and none of any other number.
func TestRoot(t *testing.T) {
	r := rand.New(rand.NewSource(7))
	roots := edges()
	for i := range 3000 {
		roots = append(roots, draw(r, 8+i%300))
	}
	for _, a := range roots {
		square := fraction.Mul(a, a)
		root, ok := fraction.Root(square)
		if !ok {
			t.Fatalf("no root of the square of %v", a)
		}
		equal(t, "the root of a square", root, fraction.Abs(a))
		for _, b := range []api.Rat{a, fraction.Neg(square), fraction.Add(square, fraction.Of(1)), fraction.Mul(square, number(t, "2/3"))} {
			checkRoot(t, b)
		}
		if n, d := fraction.Parts(square); len(n.Mag) > 0 {
			// A root of the numerator alone, or of the denominator alone, is none.
			half, _ := fraction.From(n, wholeOf(big.NewInt(7)))
			checkRoot(t, half)
			half, _ = fraction.From(wholeOf(big.NewInt(7)), d)
			checkRoot(t, half)
		}
	}
}

// checkRoot compares Root(a) with the roots of its parts.
func checkRoot(t *testing.T, a api.Rat) {
	t.Helper()
	b := toBig(t, a)
	if b.Sign() >= 0 {
		n, d := new(big.Int).Sqrt(b.Num()), new(big.Int).Sqrt(b.Denom())
		want := new(big.Rat).SetFrac(n, d)
		if new(big.Rat).Mul(want, want).Cmp(b) == 0 {
			if root, ok := fraction.Root(a); !ok || toBig(t, root).Cmp(want) != 0 {
				t.Fatalf("Root(%v): %v, %v", b, root, ok)
			}
			return
		}
	}
	if root, ok := fraction.Root(a); ok || !isZero(root) {
		t.Fatalf("Root(%v): %v, %v", b, root, ok)
	}
}

// P2.4: Grid returns a multiple of 2^-bits that is at most a, and less than 2^-bits away.
func TestGrid(t *testing.T) {
	r := rand.New(rand.NewSource(8))
	all := append(edges(), number(t, "1/3"), number(t, "-1/3"), number(t, "7/8"), number(t, "-7/8"))
	for i := range 2000 {
		all = append(all, draw(r, 8+i%400))
	}
	for i, a := range all {
		for _, bits := range []int{0, 1, 3, i % 257, 256} {
			grid, err := fraction.Grid(a, bits)
			if err != nil {
				t.Fatalf("Grid(%v, %d): %v", a, bits, err)
			}
			unit := new(big.Int).Lsh(big.NewInt(1), uint(bits))
			steps := new(big.Rat).Mul(toBig(t, grid), new(big.Rat).SetInt(unit))
			away := new(big.Rat).Sub(toBig(t, a), toBig(t, grid))
			if !steps.IsInt() || away.Sign() < 0 || away.Cmp(new(big.Rat).SetFrac(big.NewInt(1), unit)) >= 0 {
				t.Fatalf("Grid(%v, %d): %v", a, bits, grid)
			}
		}
	}
}

// P2.4: Grid refuses other numbers of bits, whatever a is.
func TestGridErrors(t *testing.T) {
	for _, a := range append(invalid(), api.Rat{}, fraction.Of(3)) {
		for _, bits := range []int{-1, 257, 1 << 40, 1<<63 - 1, -1 << 63} {
			if grid, err := fraction.Grid(a, bits); err != api.ErrRange || !isZero(grid) {
				t.Errorf("Grid(%v, %d): %v, %v", a, bits, grid, err)
			}
		}
	}
}
