package integer_test

import (
	"math/big"
	"math/rand"
	"reflect"
	"strings"
	"testing"

	"linkwork/api"
	"linkwork/integer"
)

// toBig returns the number of a, which has to be valid.
func toBig(t *testing.T, a api.Whole) *big.Int {
	t.Helper()
	n := len(a.Mag)
	if n == 0 && a.Neg || n > 0 && a.Mag[n-1] == 0 || !integer.Valid(a) {
		t.Fatalf("a result is not valid: %v", a)
	}
	b := new(big.Int)
	for i := n - 1; i >= 0; i-- {
		b.Lsh(b, 32).Or(b, big.NewInt(int64(a.Mag[i])))
	}
	if a.Neg {
		b.Neg(b)
	}
	return b
}

// fromBig returns the integer of b.
func fromBig(b *big.Int) api.Whole {
	a := api.Whole{Neg: b.Sign() < 0}
	for rest := new(big.Int).Abs(b); rest.Sign() > 0; rest.Rsh(rest, 32) {
		a.Mag = append(a.Mag, uint32(rest.Uint64()))
	}
	return a
}

func number(t *testing.T, s string) api.Whole {
	t.Helper()
	b, ok := new(big.Int).SetString(s, 10)
	if !ok {
		t.Fatalf("no number: %s", s)
	}
	return fromBig(b)
}

// power returns 2^n + d.
func power(n uint, d int64) *big.Int {
	b := new(big.Int).Lsh(big.NewInt(1), n)
	return b.Add(b, big.NewInt(d))
}

// edges returns numbers around 0 and the borders of words, of both signs.
func edges() []api.Whole {
	all := []api.Whole{{}}
	for _, n := range []uint{0, 1, 31, 32, 33, 63, 64, 65, 95, 96, 128} {
		for d := int64(-1); d <= 1; d++ {
			if b := power(n, d); b.Sign() > 0 {
				all = append(all, fromBig(b), fromBig(b.Neg(b)))
			}
		}
	}
	return all
}

// draw returns a number of at most the given number of words, often with words of one value.
func draw(r *rand.Rand, words int) api.Whole {
	a := api.Whole{Neg: r.Intn(2) == 0, Mag: make([]uint32, r.Intn(words+1))}
	for i := range a.Mag {
		switch r.Intn(4) {
		case 0:
			a.Mag[i] = []uint32{0, 1, 1 << 31, 1<<31 - 1, 1<<32 - 1, 1<<32 - 2}[r.Intn(6)]
		default:
			a.Mag[i] = r.Uint32()
		}
	}
	if n := len(a.Mag); n == 0 {
		return api.Whole{}
	} else if a.Mag[n-1] == 0 {
		a.Mag[n-1] = 1 + r.Uint32()>>1
	}
	return a
}

// pairs returns all pairs of edges and many pairs of drawn numbers.
func pairs() [][2]api.Whole {
	var all [][2]api.Whole
	for _, a := range edges() {
		for _, b := range edges() {
			all = append(all, [2]api.Whole{a, b})
		}
	}
	r := rand.New(rand.NewSource(1))
	for i := range 6000 {
		words := 2 + i%12
		all = append(all, [2]api.Whole{draw(r, words), draw(r, words)})
	}
	for range 200 {
		all = append(all, [2]api.Whole{draw(r, 80), draw(r, 80)})
	}
	return all
}

// invalid returns values that are not valid.
func invalid() []api.Whole {
	return []api.Whole{
		{Neg: true},
		{Neg: true, Mag: []uint32{}},
		{Mag: []uint32{0}},
		{Neg: true, Mag: []uint32{0}},
		{Mag: []uint32{7, 0}},
		{Neg: true, Mag: []uint32{7, 9, 0}},
		{Mag: []uint32{0, 0, 0, 0}},
	}
}

func expect(t *testing.T, what string, got api.Whole, want *big.Int) {
	t.Helper()
	if g := toBig(t, got); g.Cmp(want) != 0 {
		t.Fatalf("%s: %v, not %v", what, g, want)
	}
}

// P1.1: Valid.
func TestValid(t *testing.T) {
	for _, a := range invalid() {
		if integer.Valid(a) {
			t.Errorf("valid: %v", a)
		}
	}
	for _, a := range append(edges(), api.Whole{Mag: []uint32{}}, api.Whole{Neg: true, Mag: []uint32{0, 1}}) {
		if !integer.Valid(a) {
			t.Errorf("not valid: %v", a)
		}
	}
}

// P1.1: Of and Int are inverse to each other on all ints; Int refuses all other numbers.
func TestInts(t *testing.T) {
	for _, n := range []int{0, 1, -1, 7, -7, 1<<32 - 1, 1 << 32, -1 << 32, 1<<63 - 1, -1<<63 + 1, -1 << 63} {
		a := integer.Of(n)
		expect(t, "Of", a, big.NewInt(int64(n)))
		if m, ok := integer.Int(a); m != n || !ok {
			t.Errorf("Int(Of(%d)): %d, %v", n, m, ok)
		}
	}
	for _, s := range []string{"9223372036854775808", "-9223372036854775809", "18446744073709551615", "-18446744073709551616", "79228162514264337593543950336"} {
		if m, ok := integer.Int(number(t, s)); m != 0 || ok {
			t.Errorf("Int(%s): %d, %v", s, m, ok)
		}
	}
	if a := integer.Of(0); a.Neg || len(a.Mag) != 0 {
		t.Errorf("Of(0): %v", a)
	}
	if a := (api.Whole{Mag: []uint32{0, 1}}); integer.Cmp(a, integer.Of(1<<32)) != 0 {
		t.Error("the words 0, 1 are not 2^32")
	}
}

// P1.1: functions of one number.
func TestOneNumber(t *testing.T) {
	all := edges()
	for _, p := range pairs() {
		all = append(all, p[0])
	}
	for _, a := range all {
		b := toBig(t, a)
		if s := integer.Sign(a); s != b.Sign() {
			t.Fatalf("Sign(%v): %d", b, s)
		}
		if n := integer.Bits(a); n != b.BitLen() {
			t.Fatalf("Bits(%v): %d", b, n)
		}
		if s := integer.Text(a); s != b.String() {
			t.Fatalf("Text(%v): %s", b, s)
		}
		expect(t, "Neg", integer.Neg(a), new(big.Int).Neg(b))
		r, err := integer.Root(a)
		if b.Sign() < 0 {
			if err != api.ErrRange || !reflect.DeepEqual(r, api.Whole{}) {
				t.Fatalf("Root(%v): %v, %v", b, r, err)
			}
			continue
		}
		if err != nil {
			t.Fatalf("Root(%v): %v", b, err)
		}
		expect(t, "Root", r, new(big.Int).Sqrt(b))
	}
}

// P1.1: functions of two numbers.
func TestTwoNumbers(t *testing.T) {
	for _, p := range pairs() {
		a, b := toBig(t, p[0]), toBig(t, p[1])
		if c := integer.Cmp(p[0], p[1]); c != a.Cmp(b) {
			t.Fatalf("Cmp(%v, %v): %d", a, b, c)
		}
		expect(t, "Add", integer.Add(p[0], p[1]), new(big.Int).Add(a, b))
		expect(t, "Sub", integer.Sub(p[0], p[1]), new(big.Int).Sub(a, b))
		expect(t, "Mul", integer.Mul(p[0], p[1]), new(big.Int).Mul(a, b))
		expect(t, "Gcd", integer.Gcd(p[0], p[1]), new(big.Int).GCD(nil, nil, new(big.Int).Abs(a), new(big.Int).Abs(b)))
		q, r, err := integer.Div(p[0], p[1])
		if b.Sign() == 0 {
			if err != api.ErrZero || !reflect.DeepEqual(q, api.Whole{}) || !reflect.DeepEqual(r, api.Whole{}) {
				t.Fatalf("Div(%v, 0): %v, %v, %v", a, q, r, err)
			}
			continue
		}
		if err != nil {
			t.Fatalf("Div(%v, %v): %v", a, b, err)
		}
		wantQ, wantR := new(big.Int).DivMod(a, b, new(big.Int))
		expect(t, "Div, quotient", q, wantQ)
		expect(t, "Div, rest", r, wantR)
	}
}

// P1.1: an argument that is not valid counts as 0.
func TestInvalidCountsAsZero(t *testing.T) {
	type twice = func(a, b api.Whole) any
	five := integer.Of(-5)
	one := []func(a api.Whole) any{
		func(a api.Whole) any { n, ok := integer.Int(a); return [2]any{n, ok} },
		func(a api.Whole) any { return integer.Sign(a) },
		func(a api.Whole) any { return integer.Neg(a) },
		func(a api.Whole) any { r, err := integer.Root(a); return [2]any{r, err} },
		func(a api.Whole) any { return integer.Bits(a) },
		func(a api.Whole) any { return integer.Text(a) },
	}
	two := []twice{
		func(a, b api.Whole) any { return integer.Cmp(a, b) },
		func(a, b api.Whole) any { return integer.Add(a, b) },
		func(a, b api.Whole) any { return integer.Sub(a, b) },
		func(a, b api.Whole) any { return integer.Mul(a, b) },
		func(a, b api.Whole) any { return integer.Gcd(a, b) },
		func(a, b api.Whole) any { q, r, err := integer.Div(a, b); return [3]any{q, r, err} },
	}
	zero := api.Whole{}
	for _, bad := range invalid() {
		for i, f := range one {
			if got, want := f(bad), f(zero); !reflect.DeepEqual(got, want) {
				t.Errorf("function %d of %v: %v, not %v", i, bad, got, want)
			}
		}
		for i, f := range two {
			for _, x := range [][4]api.Whole{{bad, five, zero, five}, {five, bad, five, zero}, {bad, bad, zero, zero}} {
				if got, want := f(x[0], x[1]), f(x[2], x[3]); !reflect.DeepEqual(got, want) {
					t.Errorf("function %d of %v: %v, not %v", i, x, got, want)
				}
			}
		}
	}
}

// P1.1 with rule 3: arguments are not changed, and results share no memory with them or with each other.
func TestMemory(t *testing.T) {
	r := rand.New(rand.NewSource(2))
	for range 300 {
		a, b := draw(r, 6), draw(r, 3)
		a.Neg = false
		textA, textB := toBig(t, a).String(), toBig(t, b).String()
		q, rest, _ := integer.Div(a, b)
		root, _ := integer.Root(a)
		zero := api.Whole{}
		results := []api.Whole{
			q, rest, root, integer.Neg(a), integer.Add(a, b), integer.Add(a, zero), integer.Add(zero, a),
			integer.Sub(a, b), integer.Sub(a, zero), integer.Sub(zero, a), integer.Mul(a, b),
			integer.Mul(a, integer.Of(1)), integer.Gcd(a, b), integer.Gcd(a, zero), integer.Gcd(zero, a), integer.Gcd(a, a),
		}
		if x, y := toBig(t, a).String(), toBig(t, b).String(); x != textA || y != textB {
			t.Fatalf("changed arguments: %s to %s, %s to %s", textA, x, textB, y)
		}
		texts := make([]string, len(results))
		for i, x := range results {
			texts[i] = toBig(t, x).String()
		}
		scratch(a)
		scratch(b)
		for i, x := range results {
			if s := toBig(t, x).String(); s != texts[i] {
				t.Fatalf("result %d for %s, %s shares memory: %s became %s", i, textA, textB, texts[i], s)
			}
			scratch(x)
		}
	}
}

// scratch overwrites all the memory of a, behind its end too.
func scratch(a api.Whole) {
	a.Mag = a.Mag[:cap(a.Mag)]
	for i := range a.Mag {
		a.Mag[i] = 0xdeadbeef
	}
}

// P1.2: the laws of an ordered ring.
func TestRing(t *testing.T) {
	r := rand.New(rand.NewSource(3))
	all := edges()
	for range 4000 {
		var x [3]api.Whole
		for i := range x {
			if r.Intn(3) == 0 {
				x[i] = all[r.Intn(len(all))]
			} else {
				x[i] = draw(r, 5)
			}
		}
		checkSums(t, x[0], x[1], x[2])
		checkProducts(t, x[0], x[1], x[2])
		checkOrder(t, x[0], x[1], x[2])
	}
}

func same(t *testing.T, law string, a, b api.Whole) {
	t.Helper()
	if toBig(t, a).Cmp(toBig(t, b)) != 0 || integer.Cmp(a, b) != 0 {
		t.Fatalf("%s: %v is not %v", law, a, b)
	}
}

func checkSums(t *testing.T, a, b, c api.Whole) {
	t.Helper()
	same(t, "a + b = b + a", integer.Add(a, b), integer.Add(b, a))
	same(t, "(a + b) + c = a + (b + c)", integer.Add(integer.Add(a, b), c), integer.Add(a, integer.Add(b, c)))
	same(t, "a + 0 = a", integer.Add(a, api.Whole{}), a)
	same(t, "a + -a = 0", integer.Add(a, integer.Neg(a)), api.Whole{})
	same(t, "a - b = a + -b", integer.Sub(a, b), integer.Add(a, integer.Neg(b)))
	same(t, "a - a = 0", integer.Sub(a, a), api.Whole{})
}

func checkProducts(t *testing.T, a, b, c api.Whole) {
	t.Helper()
	same(t, "a b = b a", integer.Mul(a, b), integer.Mul(b, a))
	same(t, "(a b) c = a (b c)", integer.Mul(integer.Mul(a, b), c), integer.Mul(a, integer.Mul(b, c)))
	same(t, "a 1 = a", integer.Mul(a, integer.Of(1)), a)
	same(t, "a 0 = 0", integer.Mul(a, api.Whole{}), api.Whole{})
	same(t, "a (b + c) = a b + a c", integer.Mul(a, integer.Add(b, c)), integer.Add(integer.Mul(a, b), integer.Mul(a, c)))
	if integer.Sign(integer.Mul(a, b)) != integer.Sign(a)*integer.Sign(b) {
		t.Fatalf("the sign of %v times %v", a, b)
	}
}

func checkOrder(t *testing.T, a, b, c api.Whole) {
	t.Helper()
	order := integer.Cmp(a, b)
	if order != -integer.Cmp(b, a) || order != integer.Sign(integer.Sub(a, b)) || integer.Cmp(a, a) != 0 {
		t.Fatalf("the order of %v and %v", a, b)
	}
	if order <= 0 && integer.Cmp(b, c) <= 0 && integer.Cmp(a, c) > 0 {
		t.Fatalf("the order of %v, %v and %v", a, b, c)
	}
	if integer.Cmp(integer.Add(a, c), integer.Add(b, c)) != order {
		t.Fatalf("the order of %v and %v, both plus %v", a, b, c)
	}
	if integer.Cmp(integer.Mul(a, c), integer.Mul(b, c)) != order*integer.Sign(c) {
		t.Fatalf("the order of %v and %v, both times %v", a, b, c)
	}
}

// P1.3: the examples of the chapter, and quotients that are hard to guess from the leading words.
func TestQuotientExamples(t *testing.T) {
	for _, x := range [][4]string{
		{"-7", "2", "-4", "1"},
		{"-7", "-2", "4", "1"},
		{"7", "-2", "-3", "1"},
		{"7", "2", "3", "1"},
		{"-6", "3", "-2", "0"},
		{"-1", "18446744073709551616", "-1", "18446744073709551615"},
		{"-1", "-18446744073709551616", "1", "18446744073709551615"},
		{"0", "-3", "0", "0"},
	} {
		q, r, err := integer.Div(number(t, x[0]), number(t, x[1]))
		if err != nil || integer.Text(q) != x[2] || integer.Text(r) != x[3] {
			t.Errorf("Div(%s, %s): %s, %s, %v", x[0], x[1], integer.Text(q), integer.Text(r), err)
		}
	}
	for _, x := range [][2][]uint32{
		{{0, 0, 1 << 31, 1<<31 - 1}, {1, 0, 1 << 31}},
		{{3, 0, 1 << 31}, {1, 0, 1 << 29}},
		{{0, 1<<32 - 2, 1 << 31}, {1<<32 - 1, 1 << 31}},
		{{0, 0, 1 << 31, 1 << 31}, {1<<32 - 1, 1<<32 - 1, 1 << 31}},
		{{1<<32 - 1, 1<<32 - 1, 1<<32 - 1, 1<<32 - 2}, {1<<32 - 1, 1<<32 - 1}},
		{{0, 0, 0, 1<<32 - 1}, {1<<32 - 1, 1<<32 - 1, 1<<32 - 1}},
	} {
		checkQuotient(t, api.Whole{Mag: x[0]}, api.Whole{Mag: x[1]})
	}
}

// P1.3: quotient and rest have the stated property, and no others have.
func TestQuotientProperty(t *testing.T) {
	r := rand.New(rand.NewSource(4))
	for _, p := range pairs() {
		checkQuotient(t, p[0], p[1])
	}
	for range 3000 {
		b, q := draw(r, 6), draw(r, 6)
		product := integer.Mul(b, q)
		for d := -1; d <= 1; d++ {
			checkQuotient(t, integer.Add(product, integer.Of(d)), b)
		}
	}
}

func checkQuotient(t *testing.T, a, b api.Whole) {
	t.Helper()
	q, r, err := integer.Div(a, b)
	if integer.Sign(b) == 0 {
		if err != api.ErrZero {
			t.Fatalf("Div(%v, 0): %v", a, err)
		}
		return
	}
	size := b
	size.Neg = false
	if err != nil || integer.Sign(r) < 0 || integer.Cmp(r, size) >= 0 {
		t.Fatalf("Div(%v, %v): rest %v, %v", a, b, r, err)
	}
	same(t, "q b + r = a", integer.Add(integer.Mul(q, b), r), a)
	for _, d := range []int{-1, 1} {
		rest := integer.Sub(a, integer.Mul(integer.Add(q, integer.Of(d)), b))
		if integer.Sign(rest) >= 0 && integer.Cmp(rest, size) < 0 {
			t.Fatalf("Div(%v, %v): %v has another quotient beside it", a, b, q)
		}
	}
}

// P1.3: the greatest common divisor.
func TestDivisor(t *testing.T) {
	for _, x := range [][3]string{
		{"-12", "18", "6"}, {"0", "0", "0"}, {"0", "-5", "5"}, {"-5", "0", "5"}, {"-4", "-4", "4"}, {"1", "-1", "1"},
		{"0", "-79228162514264337593543950336", "79228162514264337593543950336"},
	} {
		if s := integer.Text(integer.Gcd(number(t, x[0]), number(t, x[1]))); s != x[2] {
			t.Errorf("Gcd(%s, %s): %s", x[0], x[1], s)
		}
	}
	r := rand.New(rand.NewSource(5))
	for i := range 3000 {
		a, b, g := draw(r, 2+i%9), draw(r, 2+i%9), draw(r, 2+i%9)
		checkDivisor(t, a, b, g)
	}
	// The neighbours among Fibonacci's numbers need the most steps.
	a, b := integer.Of(0), integer.Of(1)
	for range 500 {
		a, b = b, integer.Add(a, b)
		same(t, "the divisor of neighbours", integer.Gcd(b, a), integer.Of(1))
		same(t, "the divisor of neighbours", integer.Gcd(integer.Neg(a), b), integer.Of(1))
	}
}

// checkDivisor checks the divisor of a g and b g, which g divides.
func checkDivisor(t *testing.T, a, b, g api.Whole) {
	t.Helper()
	x, y := integer.Mul(a, g), integer.Mul(b, g)
	d := integer.Gcd(x, y)
	if integer.Sign(d) < 0 {
		t.Fatalf("Gcd(%v, %v) is below 0", x, y)
	}
	if integer.Sign(d) == 0 {
		same(t, "Gcd is 0 of zeros alone", x, api.Whole{})
		same(t, "Gcd is 0 of zeros alone", y, api.Whole{})
		return
	}
	for _, z := range []api.Whole{x, y} {
		if _, rest, err := integer.Div(z, d); err != nil || integer.Sign(rest) != 0 {
			t.Fatalf("%v does not divide %v", d, z)
		}
	}
	if _, rest, err := integer.Div(d, g); err != nil || integer.Sign(rest) != 0 {
		t.Fatalf("the common divisor %v does not divide %v", g, d)
	}
	whole, _, _ := integer.Div(x, d)
	other, _, _ := integer.Div(y, d)
	same(t, "the quotients have no common divisor", integer.Gcd(whole, other), integer.Of(1))
}

// P1.1: roots of squares and of the numbers around them.
func TestRoots(t *testing.T) {
	if r, err := integer.Root(integer.Of(99)); err != nil || integer.Text(r) != "9" {
		t.Errorf("Root(99): %v, %v", r, err)
	}
	r := rand.New(rand.NewSource(6))
	for i := range 4000 {
		x := draw(r, 1+i%8)
		x.Neg = false
		if integer.Sign(x) == 0 {
			continue
		}
		square := integer.Mul(x, x)
		next := integer.Add(integer.Add(square, x), x)
		for _, y := range []api.Whole{square, integer.Add(square, integer.Of(1)), next} {
			root, err := integer.Root(y)
			if err != nil {
				t.Fatal(err)
			}
			same(t, "the root of a square and a little more", root, x)
		}
		root, err := integer.Root(integer.Sub(square, integer.Of(1)))
		if err != nil {
			t.Fatal(err)
		}
		same(t, "the root of a square less 1", root, integer.Sub(x, integer.Of(1)))
	}
}

// P1.4: Parse of a Text is the number, and Text of what is parsed is the text.
func TestTextAndParse(t *testing.T) {
	var texts []string
	for _, p := range pairs() {
		texts = append(texts, toBig(t, p[0]).String())
	}
	for n := range 60 {
		nines, zeros := strings.Repeat("9", n), strings.Repeat("0", n)
		texts = append(texts, "9"+nines, "-9"+nines, "1"+zeros, "-1"+zeros, "1"+zeros+"1")
	}
	texts = append(texts, "0", strings.Repeat("7", api.MaxText), "-"+strings.Repeat("1", api.MaxText-1))
	for _, s := range texts {
		a, err := integer.Parse(s)
		if err != nil {
			t.Fatalf("Parse(%.80s): %v", s, err)
		}
		if len(s) < 3000 {
			expect(t, "Parse", a, toBig(t, number(t, s)))
		}
		if again := integer.Text(a); again != s {
			t.Fatalf("Text(Parse(%.80s)): %.80s", s, again)
		}
	}
}

// P1.4: only texts of integers are accepted, and a text that is too long is refused before its form.
func TestParseErrors(t *testing.T) {
	long := strings.Repeat("1", api.MaxText+1)
	for _, x := range []struct {
		text string
		want error
	}{
		{"", api.ErrForm}, {"-", api.ErrForm}, {"-0", api.ErrForm}, {"00", api.ErrForm}, {"01", api.ErrForm},
		{"-01", api.ErrForm}, {"+1", api.ErrForm}, {" 1", api.ErrForm}, {"1 ", api.ErrForm}, {"1\n", api.ErrForm},
		{"1.0", api.ErrForm}, {"1/2", api.ErrForm}, {"--1", api.ErrForm}, {"1-", api.ErrForm}, {"0x1", api.ErrForm},
		{"1_000", api.ErrForm}, {"1e3", api.ErrForm}, {"a", api.ErrForm}, {"1:", api.ErrForm}, {"\xd9\xa1", api.ErrForm},
		{"1\x00", api.ErrForm}, {long, api.ErrLarge}, {"-" + long[1:], api.ErrLarge}, {strings.Repeat("x", api.MaxText+1), api.ErrLarge},
		{strings.Repeat("0", api.MaxText), api.ErrForm},
	} {
		if a, err := integer.Parse(x.text); err != x.want || !reflect.DeepEqual(a, api.Whole{}) {
			t.Errorf("Parse(%.40q): %v, %v", x.text, a, err)
		}
	}
}

// P1.1: numbers of thousands of words are treated in a moment.
func TestLongNumbers(t *testing.T) {
	r := rand.New(rand.NewSource(7))
	a, b := draw(r, 0), draw(r, 0)
	for len(a.Mag) < 4000 {
		a = draw(r, 6000)
	}
	for len(b.Mag) < 4000 {
		b = draw(r, 6000)
	}
	expect(t, "Mul", integer.Mul(a, b), new(big.Int).Mul(toBig(t, a), toBig(t, b)))
	checkQuotient(t, integer.Mul(a, a), b)
	common := integer.Gcd(a, b)
	expect(t, "Gcd", common, new(big.Int).GCD(nil, nil, new(big.Int).Abs(toBig(t, a)), new(big.Int).Abs(toBig(t, b))))
	root, err := integer.Root(integer.Mul(a, a))
	if err != nil {
		t.Fatal(err)
	}
	a.Neg = false
	same(t, "Root", root, a)
	if s := integer.Text(a); s != toBig(t, a).String() {
		t.Error("Text")
	}
}
