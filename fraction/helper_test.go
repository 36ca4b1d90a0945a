package fraction_test

import (
	"math/big"
	"math/rand"
	"reflect"
	"testing"

	"linkwork/api"
	"linkwork/fraction"
	"linkwork/integer"
)

// words returns the words of b, which is not below 0.
func words(b *big.Int) []uint32 {
	var all []uint32
	for rest := new(big.Int).Set(b); rest.Sign() > 0; rest.Rsh(rest, 32) {
		all = append(all, uint32(rest.Uint64()))
	}
	return all
}

// sum returns the number of some words.
func sum(words []uint32) *big.Int {
	b := new(big.Int)
	for i := len(words) - 1; i >= 0; i-- {
		b.Lsh(b, 32).Or(b, big.NewInt(int64(words[i])))
	}
	return b
}

// fromBig returns the fraction of b in its valid form.
func fromBig(b *big.Rat) api.Rat {
	if b.Sign() == 0 {
		return api.Rat{}
	}
	return api.Rat{Neg: b.Sign() < 0, Num: words(new(big.Int).Abs(b.Num())), Den: words(b.Denom())}
}

// toBig returns the number of a, which has to be valid.
func toBig(t *testing.T, a api.Rat) *big.Rat {
	t.Helper()
	b := new(big.Rat)
	if len(a.Den) > 0 {
		b.SetFrac(sum(a.Num), sum(a.Den))
	}
	if a.Neg {
		b.Neg(b)
	}
	if !same(a, fromBig(b)) {
		t.Fatalf("a result is not valid: %v", a)
	}
	return b
}

// same reports whether the fields of a and b are equal.
func same(a, b api.Rat) bool {
	return a.Neg == b.Neg && sameWords(a.Num, b.Num) && sameWords(a.Den, b.Den)
}

func sameWords(a, b []uint32) bool {
	return len(a) == 0 && len(b) == 0 || reflect.DeepEqual(a, b)
}

// wholeOf returns the integer of b.
func wholeOf(b *big.Int) api.Whole {
	return api.Whole{Neg: b.Sign() < 0, Mag: words(new(big.Int).Abs(b))}
}

// bigWhole returns the number of a, which has to be valid.
func bigWhole(t *testing.T, a api.Whole) *big.Int {
	t.Helper()
	b := sum(a.Mag)
	if a.Neg {
		b.Neg(b)
	}
	if !integer.Valid(a) || len(a.Mag) != len(words(new(big.Int).Abs(b))) {
		t.Fatalf("an integer is not valid: %v", a)
	}
	return b
}

// number returns the fraction that big.Rat reads from s.
func number(t *testing.T, s string) api.Rat {
	t.Helper()
	b, ok := new(big.Rat).SetString(s)
	if !ok {
		t.Fatalf("no number: %s", s)
	}
	return fromBig(b)
}

func expect(t *testing.T, what string, got api.Rat, want *big.Rat) {
	t.Helper()
	if g := toBig(t, got); g.Cmp(want) != 0 {
		t.Fatalf("%s: %v, not %v", what, g, want)
	}
}

// isZero reports whether a is the zero value, as it is returned together with an error.
func isZero(a api.Rat) bool {
	return !a.Neg && len(a.Num) == 0 && len(a.Den) == 0
}

// borders returns numbers above 0 around the borders of words and of machine numbers.
func borders() []*big.Int {
	var all []*big.Int
	for _, n := range []uint{0, 1, 2, 30, 31, 32, 33, 62, 63, 64, 65, 96} {
		for d := int64(-1); d <= 1; d++ {
			b := new(big.Int).Lsh(big.NewInt(1), n)
			if b.Add(b, big.NewInt(d)); b.Sign() > 0 {
				all = append(all, b)
			}
		}
	}
	return append(all, big.NewInt(6), big.NewInt(35), big.NewInt(1<<31*3), big.NewInt(97*101*103*107))
}

// edges returns 0 and fractions of both signs made from borders.
func edges() []api.Rat {
	all := []api.Rat{{}}
	for _, n := range borders() {
		for _, d := range borders() {
			b := new(big.Rat).SetFrac(n, d)
			all = append(all, fromBig(b), fromBig(new(big.Rat).Neg(b)))
		}
	}
	return all
}

// drawSize returns a number of at most the given number of bits, often one with many divisors.
func drawSize(r *rand.Rand, bits int) *big.Int {
	if bits = r.Intn(bits + 1); r.Intn(3) > 0 {
		return new(big.Int).Rand(r, new(big.Int).Lsh(big.NewInt(1), uint(bits)))
	}
	b := big.NewInt(1)
	for b.BitLen() < bits {
		b.Mul(b, big.NewInt([]int64{2, 3, 5, 7, 12, 1 << 20, 97 * 101 * 103 * 107}[r.Intn(7)]))
	}
	return b
}

// drawBig returns a fraction whose parts have at most the given number of bits.
func drawBig(r *rand.Rand, bits int) *big.Rat {
	d := drawSize(r, bits)
	for d.Sign() == 0 {
		d = drawSize(r, bits)
	}
	b := new(big.Rat).SetFrac(drawSize(r, bits), d)
	if r.Intn(2) == 0 {
		b.Neg(b)
	}
	return b
}

func draw(r *rand.Rand, bits int) api.Rat {
	return fromBig(drawBig(r, bits))
}

// pairs returns pairs of edges and of drawn fractions, among them many with related denominators.
func pairs() [][2]api.Rat {
	r := rand.New(rand.NewSource(1))
	around := edges()
	var all [][2]api.Rat
	for _, a := range around {
		all = append(all, [2]api.Rat{a, a}, [2]api.Rat{a, {}}, [2]api.Rat{{}, a}, [2]api.Rat{a, fraction.Neg(a)})
	}
	for range 20000 {
		all = append(all, [2]api.Rat{around[r.Intn(len(around))], around[r.Intn(len(around))]})
	}
	for i := range 6000 {
		bits := 8 + i%300
		all = append(all, [2]api.Rat{draw(r, bits), draw(r, bits)}, related(r, bits))
	}
	for range 100 {
		all = append(all, [2]api.Rat{draw(r, 3000), draw(r, 3000)})
	}
	return all
}

// related returns two fractions whose denominators have a common factor, which often cancels from the sum.
func related(r *rand.Rand, bits int) [2]api.Rat {
	common := big.NewRat(1, 1).SetFrac(big.NewInt(1), new(big.Int).Add(drawSize(r, bits), big.NewInt(1)))
	a, b := drawBig(r, bits), drawBig(r, bits)
	if r.Intn(2) == 0 {
		a, b = new(big.Rat).SetInt(a.Num()), new(big.Rat).SetInt(b.Num())
	}
	return [2]api.Rat{fromBig(a.Mul(a, common)), fromBig(b.Mul(b, common))}
}

// invalid returns values that are not valid.
func invalid() []api.Rat {
	return []api.Rat{
		{Neg: true},
		{Neg: true, Num: []uint32{}, Den: []uint32{}},
		{Num: []uint32{1}},
		{Num: []uint32{5}, Den: []uint32{}},
		{Den: []uint32{1}},
		{Neg: true, Den: []uint32{3}},
		{Num: []uint32{0}, Den: []uint32{1}},
		{Num: []uint32{1}, Den: []uint32{0}},
		{Num: []uint32{0}, Den: []uint32{0}},
		{Num: []uint32{1, 0}, Den: []uint32{1}},
		{Num: []uint32{1}, Den: []uint32{1, 0}},
		{Num: []uint32{7, 0}, Den: []uint32{3, 0}},
		{Num: []uint32{2}, Den: []uint32{4}},
		{Neg: true, Num: []uint32{9}, Den: []uint32{6}},
		{Num: []uint32{3}, Den: []uint32{3}},
		{Num: []uint32{0, 1}, Den: []uint32{2}},
		{Num: []uint32{1 << 31}, Den: []uint32{0, 1}},
		{Num: []uint32{0, 0, 1}, Den: []uint32{0, 3}},
		{Neg: true, Num: []uint32{0, 3, 3}, Den: []uint32{7, 7}},
		{Num: []uint32{3, 3, 3, 3}, Den: []uint32{5, 5, 5, 5}},
		{Num: []uint32{1, 2, 3, 4}, Den: []uint32{1, 2, 3, 4}},
	}
}

// scratch overwrites all the memory of some words, behind their end too.
func scratch(words []uint32) {
	words = words[:cap(words)]
	for i := range words {
		words[i] = 0xdeadbeef
	}
}
