package tower_test

import (
	"math/big"
	"math/rand"
	"strconv"
	"testing"

	"linkwork/api"
	"linkwork/fraction"
	"linkwork/tower"
)

// P4.2: the laws of a field, for the lists of sums and products and for the values of inverses.
func TestField(t *testing.T) {
	r := rand.New(rand.NewSource(3))
	for _, u := range append(towers(), drawnTowers(r)...) {
		all := numbers(r, u, 4)
		for range 60 >> level(u) {
			a, b, c := all[r.Intn(len(all))], all[r.Intn(len(all))], all[r.Intn(len(all))]
			checkRing(t, u, a, b, c)
			checkInverse(t, u, a)
		}
	}
}

func checkRing(t *testing.T, u api.Tower, a, b, c api.Num) {
	t.Helper()
	equal := func(law string, x, y api.Num) {
		t.Helper()
		if !same(x, y) {
			t.Fatalf("%s in %s: %s is not %s", law, showTower(u), show(x), show(y))
		}
	}
	short := tower.Short(a)
	equal("a + b = b + a", add(t, u, a, b), add(t, u, b, a))
	equal("(a + b) + c = a + (b + c)", add(t, u, add(t, u, a, b), c), add(t, u, a, add(t, u, b, c)))
	equal("a + 0 = a", add(t, u, a, nil), short)
	equal("a + -a = 0", add(t, u, a, neg(t, u, a)), nil)
	equal("a - b = a + -b", sub(t, u, a, b), add(t, u, a, neg(t, u, b)))
	equal("a b = b a", mul(t, u, a, b), mul(t, u, b, a))
	equal("(a b) c = a (b c)", mul(t, u, mul(t, u, a, b), c), mul(t, u, a, mul(t, u, b, c)))
	equal("a 1 = a", mul(t, u, a, num("1")), short)
	equal("a 0 = 0", mul(t, u, a, nil), nil)
	equal("a (b + c) = a b + a c", mul(t, u, a, add(t, u, b, c)), add(t, u, mul(t, u, a, b), mul(t, u, a, c)))
}

// checkInverse checks that a times its inverse has the value 1, unless a has the value 0.
func checkInverse(t *testing.T, u api.Tower, a api.Num) {
	t.Helper()
	inverse, err := tower.Inverse(u, a)
	if sign(t, u, a) == 0 {
		if err != api.ErrZero {
			t.Fatalf("Inverse(%s, %s): %v", showTower(u), show(a), err)
		}
		return
	}
	product := mul(t, u, a, must(t, inverse, err))
	if c, err := tower.Cmp(u, product, num("1")); c != 0 || err != nil {
		t.Fatalf("%s times its inverse in %s: %s, %d, %v", show(a), showTower(u), show(product), c, err)
	}
	if sign(t, u, inverse) != sign(t, u, a) {
		t.Fatalf("the sign of the inverse of %s in %s", show(a), showTower(u))
	}
}

// P4.3: signs are those of the values, and agree with sums, products and the order.
func TestSigns(t *testing.T) {
	r := rand.New(rand.NewSource(4))
	for _, u := range append(towers(), drawnTowers(r)...) {
		all := numbers(r, u, 6)
		for range 100 >> level(u) {
			a, b := all[r.Intn(len(all))], all[r.Intn(len(all))]
			checkSigns(t, u, a, b)
			// Differences of products of roots are close to 0, or 0, more often than drawn numbers.
			checkSigns(t, u, sub(t, u, mul(t, u, a, a), mul(t, u, b, b)), sub(t, u, a, b))
		}
	}
}

func checkSigns(t *testing.T, u api.Tower, a, b api.Num) {
	t.Helper()
	signA, signB := sign(t, u, a), sign(t, u, b)
	if signA != realSign(realOf(u, a)) || signB != realSign(realOf(u, b)) {
		t.Fatalf("the signs of %s and %s in %s: %d, %d", show(a), show(b), showTower(u), signA, signB)
	}
	if sign(t, u, neg(t, u, a)) != -signA || sign(t, u, mul(t, u, a, b)) != signA*signB {
		t.Fatalf("the signs of -a and of a b for %s and %s in %s", show(a), show(b), showTower(u))
	}
	if sum := sign(t, u, add(t, u, a, b)); signA == signB && sum != signA || signB == 0 && sum != signA {
		t.Fatalf("the sign of a + b for %s and %s in %s: %d", show(a), show(b), showTower(u), sum)
	}
	order, err := tower.Cmp(u, a, b)
	back, backErr := tower.Cmp(u, b, a)
	if err != nil || backErr != nil || order != -back || order != sign(t, u, sub(t, u, a, b)) {
		t.Fatalf("the order of %s and %s in %s: %d, %d", show(a), show(b), showTower(u), order, back)
	}
}

// P4.3: roots are not below 0, and the square of a root has the value under it.
func TestSquares(t *testing.T) {
	r := rand.New(rand.NewSource(5))
	for _, u := range append(towers(), drawnTowers(r)...) {
		for k, d := range u.Roots {
			s := root(t, u, k)
			if c, err := tower.Cmp(u, mul(t, u, s, s), d); c != 0 || err != nil {
				t.Errorf("the square of root %d in %s: %d, %v", k, showTower(u), c, err)
			}
			if got, want := sign(t, u, s), sign(t, u, d); got != want || got < 0 {
				t.Errorf("the sign of root %d in %s: %d, under it %d", k, showTower(u), got, want)
			}
		}
	}
}

// P4.3: the order is transitive.
func TestOrder(t *testing.T) {
	r := rand.New(rand.NewSource(6))
	for _, u := range append(towers(), drawnTowers(r)...) {
		all := numbers(r, u, 4)
		for range 40 >> level(u) {
			a, b, c := all[r.Intn(len(all))], all[r.Intn(len(all))], all[r.Intn(len(all))]
			ab, _ := tower.Cmp(u, a, b)
			bc, _ := tower.Cmp(u, b, c)
			ac, _ := tower.Cmp(u, a, c)
			if ab == bc && ac != ab || ab == 0 && ac != bc || bc == 0 && ac != ab {
				t.Fatalf("the order of %s, %s and %s in %s: %d, %d, %d", show(a), show(b), show(c), showTower(u), ab, bc, ac)
			}
		}
	}
}

// knownZeros returns towers with numbers whose value is 0 though they are no lists of zeros.
func knownZeros() []struct {
	t api.Tower
	a api.Num
} {
	type zero = struct {
		t api.Tower
		a api.Num
	}
	sixth := roots("2", "3 0", "6 0 0 0")
	sum := roots("2", "3 0", "5 0 0 2")
	deep := towers()[len(towers())-1]
	return []zero{
		{roots("4"), list("2 -1")},
		{roots("0"), list("0 123456789012345678901234567890")},
		{roots("9/4"), list("-3/2 1")},
		{roots("2", "3 2"), list("1 1 -1 0")},
		{roots("2", "2 0"), list("0 1 -1 0")},
		{roots("2", "8 0"), list("0 2 -1 0")},
		{roots("1/2", "2 0"), list("-1 0 0 1")},
		{roots("4", "2 -1"), list("0 0 7 9")},
		{roots("4", "2 -1", "1 0 5 5"), list("1 0 0 0 -1 0 0 0")},
		{sixth, list("0 0 0 1 -1 0 0 0")},
		{sixth, list("0 0 2 0 0 -1 0 0")},
		{sum, list("0 1 1 0 -1 0 0 0")},
		{sum, list("1 0 0 0 0 1 -1 0")},
		{deep, list("1 2 1 0 0 0 0 0 0 0 0 0 0 0 0 0 -1 0 0 0 0 0 0 0 0 0 0 0 0 0 0 0")},
	}
}

// P4.3: numbers with the value 0 are found, whatever they are multiplied with, and numbers that
// differ from them by very little are told apart.
func TestZeros(t *testing.T) {
	r := rand.New(rand.NewSource(7))
	little := tower.Of(unit(1000))
	for _, c := range knownZeros() {
		for i := range 12 {
			zero := c.a
			if i > 0 {
				zero = mul(t, c.t, c.a, drawNum(r, level(c.t), 20*i))
			}
			if s := sign(t, c.t, zero); s != 0 {
				t.Fatalf("the sign of %s in %s: %d", show(zero), showTower(c.t), s)
			}
			if s := sign(t, c.t, add(t, c.t, zero, little)); s != 1 {
				t.Fatalf("the sign of a little more than %s in %s: %d", show(zero), showTower(c.t), s)
			}
			if s := sign(t, c.t, sub(t, c.t, zero, little)); s != -1 {
				t.Fatalf("the sign of a little less than %s in %s: %d", show(zero), showTower(c.t), s)
			}
			checkEnclosed(t, c.t, zero, i)
		}
	}
}

// P4.3: long coefficients that cancel but for very little.
func TestCancelled(t *testing.T) {
	for _, c := range []struct {
		t api.Tower
		a string
	}{
		{roots("2"), "1 -1"},
		{roots("2/9"), "1/3 -1"},
		{roots("2", "3 2"), "-2 0 1 0"},
		{roots("2", "3 0"), "0 -1 1 0"},
		{roots("2", "3 0", "6 1 0 0"), "5/2 0 0 0 -1 0 0 0"},
		{roots("2", "2 1", "2 0 1 0", "2 0 0 0 1 0 0 0"), "-2 0 0 0 0 0 0 0 1 0 0 0 0 0 0 0"},
	} {
		power, s := list(c.a), sign(t, c.t, list(c.a))
		want := s
		for range 9 {
			// The values are below 1/2, and come to less than 2^-500.
			power, want = mul(t, c.t, power, power), 1
			if got := sign(t, c.t, power); got != want {
				t.Fatalf("the sign of a power of %s in %s: %d", c.a, showTower(c.t), got)
			}
			if got := sign(t, c.t, mul(t, c.t, power, list(c.a))); got != s {
				t.Fatalf("the sign of an odd power of %s in %s: %d", c.a, showTower(c.t), got)
			}
		}
	}
}

// P4.3: halves of which one has the value 0, the other one is closer to 0 than bounds can tell.
func TestHalves(t *testing.T) {
	u := roots("2", "3 2", "5 0 0 0")
	zero, tiny, s := list("1 1 -1 0"), list("1 -1"), root(t, u, 2)
	for range 9 {
		tiny = mul(t, u, tiny, tiny)
	}
	tiny = mul(t, u, tiny, list("1 -1"))
	for i, a := range []api.Num{
		add(t, u, zero, mul(t, u, tiny, s)),
		add(t, u, tiny, mul(t, u, zero, s)),
		add(t, u, tiny, mul(t, u, tiny, s)),
		add(t, u, neg(t, u, tiny), mul(t, u, tiny, s)),
		sub(t, u, mul(t, u, tiny, list("2 1")), mul(t, u, tiny, s)),
	} {
		if got := sign(t, u, a); got != -1 {
			t.Errorf("the sign of the sum %d: %d", i, got)
		}
		if got := sign(t, u, neg(t, u, a)); got != 1 {
			t.Errorf("the sign of the negative sum %d: %d", i, got)
		}
	}
}

// P4.3: numbers just beside a root, much closer than bounds of few bits can tell.
func TestClose(t *testing.T) {
	for _, u := range towers() {
		for k := range u.Roots {
			for _, bits := range []int{30, 64, 70, 200, 600} {
				checkClose(t, u, root(t, u, k), bits)
			}
		}
	}
	// Products are rounded more often than roots.
	for p := range 40 {
		for q := range 40 {
			u := roots(strconv.Itoa(p), strconv.Itoa(q)+" 0")
			checkClose(t, u, list("0 0 0 1"), 70)
		}
	}
}

// checkClose compares a, which is not below 0, with the multiple of 2^-bits that is next to it.
func checkClose(t *testing.T, u api.Tower, a api.Num, bits int) {
	t.Helper()
	scaled := new(big.Float).SetMantExp(realOf(u, a), bits)
	n, _ := new(big.Float).Add(scaled, floating(big.NewRat(1, 2))).Int(nil)
	want := realSign(new(big.Float).Sub(scaled, floating(new(big.Rat).SetInt(n))))
	next := fraction.Mul(fromBig(new(big.Rat).SetInt(n)), unit(bits))
	if got, err := tower.Cmp(u, a, tower.Of(next)); got != want || err != nil {
		t.Errorf("%s in %s against %s: %d, %v, not %d", show(a), showTower(u), fraction.Text(next), got, err, want)
	}
}

// P4.4: the norm is the product with the conjugate, in which the last root is negated.
func TestNorm(t *testing.T) {
	r := rand.New(rand.NewSource(8))
	for _, u := range append(towers(), drawnTowers(r)...) {
		if level(u) == 0 {
			continue
		}
		shorter := api.Tower{Roots: u.Roots[:level(u)-1]}
		for _, a := range numbers(r, u, 6) {
			norm, err := tower.Norm(u, a)
			if !tower.Valid(shorter, must(t, norm, err)) {
				t.Fatalf("Norm(%s, %s): %s", showTower(u), show(a), show(norm))
			}
			conjugate, err := tower.Lift(u, a)
			if err != nil {
				t.Fatal(err)
			}
			for i := len(conjugate) / 2; i < len(conjugate); i++ {
				conjugate[i] = fraction.Neg(conjugate[i])
			}
			product := mul(t, u, a, conjugate)
			if c, err := tower.Cmp(u, norm, product); c != 0 || err != nil || !same(norm, product) {
				t.Fatalf("Norm(%s, %s): %s, not %s", showTower(u), show(a), show(norm), show(product))
			}
		}
	}
}

// P4.5: Enclose returns the greatest multiple of 2^-bits that is at most the value, and the least
// one that is at least the value.
func TestEnclose(t *testing.T) {
	r := rand.New(rand.NewSource(9))
	for _, u := range append(towers(), drawnTowers(r)...) {
		all := numbers(r, u, 6)
		for range 60 >> level(u) {
			checkEnclose(t, u, all[r.Intn(len(all))], r.Intn(65))
		}
		for _, bits := range []int{0, 1, 31, 32, 33, 63, 64} {
			checkEnclose(t, u, all[len(all)-1], bits)
		}
	}
}

// checkEnclose compares the ends of Enclose with the value in floating point.
func checkEnclose(t *testing.T, u api.Tower, a api.Num, bits int) {
	t.Helper()
	got, err := tower.Enclose(u, a, bits)
	if err != nil {
		t.Fatalf("Enclose(%s, %s, %d): %v", showTower(u), show(a), bits, err)
	}
	step := toBig(unit(bits))
	lo, hi := toBig(got.Lo), toBig(got.Hi)
	beyond := func(x *big.Rat) int { return realSign(new(big.Float).Sub(realOf(u, a), floating(x))) }
	wide := new(big.Rat).Sub(hi, lo)
	ok := new(big.Rat).Quo(lo, step).IsInt() && beyond(lo) >= 0 && beyond(new(big.Rat).Add(lo, step)) < 0
	if beyond(lo) == 0 {
		ok = ok && wide.Sign() == 0
	} else {
		ok = ok && wide.Cmp(step) == 0
	}
	if !ok || !fraction.Valid(got.Lo) || !fraction.Valid(got.Hi) {
		t.Fatalf("Enclose(%s, %s, %d): %s..%s", showTower(u), show(a), bits, lo.RatString(), hi.RatString())
	}
}

// checkEnclosed checks Enclose for a number with the value 0, and for numbers beside multiples of
// 2^-bits: no bounds, however fine, show where they are if not compared exactly.
func checkEnclosed(t *testing.T, u api.Tower, zero api.Num, bits int) {
	t.Helper()
	step, little := unit(bits), tower.Of(unit(1000))
	for _, n := range []int{-3, -1, 0, 1, 1000000007} {
		at := fraction.Mul(fraction.Of(n), step)
		a := add(t, u, zero, tower.Of(at))
		before, after := fraction.Text(fraction.Sub(at, step)), fraction.Text(fraction.Add(at, step))
		middle := fraction.Text(at)
		checkRange(t, u, a, bits, middle, middle)
		checkRange(t, u, add(t, u, a, little), bits, middle, after)
		checkRange(t, u, sub(t, u, a, little), bits, before, middle)
	}
}

// P4.6: in a longer tower numbers keep their values, and the lists of sums and products.
func TestLonger(t *testing.T) {
	r := rand.New(rand.NewSource(10))
	for _, u := range append(towers(), drawnTowers(r)...) {
		if level(u) == api.MaxLevel {
			continue
		}
		d := drawNum(r, level(u), 8)
		if sign(t, u, d) < 0 {
			d = neg(t, u, d)
		}
		longer := extend(t, u, d)
		for _, v := range []api.Tower{longer, extendAll(t, u)} {
			all := numbers(r, u, 3)
			for i, a := range all {
				checkKept(t, u, v, a, all[len(all)-1-i])
			}
		}
	}
}

// extendAll returns a tower of the greatest level that begins with u.
func extendAll(t *testing.T, u api.Tower) api.Tower {
	t.Helper()
	for level(u) < api.MaxLevel {
		u = extend(t, u, num("0"))
	}
	return u
}

// checkKept compares what u and the longer tower say of two numbers of u.
func checkKept(t *testing.T, u, longer api.Tower, a, b api.Num) {
	t.Helper()
	order, _ := tower.Cmp(u, a, b)
	after, err := tower.Cmp(longer, a, b)
	first, _ := tower.Enclose(u, a, 40)
	second, errSecond := tower.Enclose(longer, a, 40)
	if err != nil || errSecond != nil || order != after || sign(t, u, a) != sign(t, longer, a) ||
		!sameRat(first.Lo, second.Lo) || !sameRat(first.Hi, second.Hi) {
		t.Fatalf("%s and %s in %s and %s", show(a), show(b), showTower(u), showTower(longer))
	}
	if !same(add(t, u, a, b), add(t, longer, a, b)) || !same(mul(t, u, a, b), mul(t, longer, a, b)) {
		t.Fatalf("lists of %s and %s in %s and %s", show(a), show(b), showTower(u), showTower(longer))
	}
	lifted, err := tower.Lift(longer, a)
	if c, cmpErr := tower.Cmp(longer, lifted, a); c != 0 || err != nil || cmpErr != nil {
		t.Fatalf("the lifted list of %s in %s", show(a), showTower(longer))
	}
}
