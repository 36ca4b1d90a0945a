package residue_test

import (
	"math/big"
	"math/rand"
	"slices"
	"strings"
	"testing"

	"linkwork/api"
	"linkwork/integer"
	"linkwork/residue"
)

// num returns the integer of a text.
func num(s string) api.Whole {
	n, err := integer.Parse(s)
	if err != nil {
		panic(s + " is no integer")
	}
	return n
}

// toBig returns the number of n.
func toBig(n api.Whole) *big.Int {
	b, _ := new(big.Int).SetString(integer.Text(n), 10)
	return b
}

// bigOf returns the number of p.
func bigOf(p residue.Prime) *big.Int {
	return new(big.Int).SetUint64(uint64(p))
}

// draw returns an integer of at most some bits, often negative.
func draw(r *rand.Rand, bits int) api.Whole {
	b := new(big.Int).Rand(r, new(big.Int).Lsh(big.NewInt(1), uint(bits)))
	if r.Intn(2) == 0 {
		b.Neg(b)
	}
	return num(b.String())
}

// primes returns some primes: the greatest ones and the least ones.
func primes() []residue.Prime {
	return []residue.Prime{residue.First, residue.First.Before(), residue.First.Before().Before(), 4099, 13, 11}
}

// The ways of computing with rests are those of package big.
func TestRests(t *testing.T) {
	r := rand.New(rand.NewSource(1))
	for _, p := range primes() {
		m := bigOf(p)
		for range 200 {
			x, y, n := uint64(r.Intn(int(p))), uint64(r.Intn(int(p))), uint64(r.Intn(1<<40))
			a, b := new(big.Int).SetUint64(x), new(big.Int).SetUint64(y)
			check := func(name string, got uint64, want *big.Int) {
				if want.Mod(want, m); got != want.Uint64() {
					t.Fatalf("%s of %d, %d and %d modulo %d: %d, not %d", name, x, y, n, p, got, want)
				}
			}
			check("Mul", p.Mul(x, y), new(big.Int).Mul(a, b))
			check("Sub", p.Sub(x, y), new(big.Int).Sub(a, b))
			check("Power", p.Power(x, n), new(big.Int).Exp(a, new(big.Int).SetUint64(n), m))
			check("Power", p.Power(x, 0), big.NewInt(1))
			if x != 0 {
				check("Inverse", p.Inverse(x), new(big.Int).ModInverse(a, m))
			}
			long := draw(r, 1+r.Intn(200))
			check("Rest", p.Rest(long), toBig(long))
		}
		for _, n := range []api.Whole{{}, num(m.String()), num("-" + m.String())} {
			if x := p.Rest(n); x != 0 {
				t.Errorf("the rest of %s modulo %d: %d", integer.Text(n), p, x)
			}
		}
	}
}

// Lists of rests have no zeros at their end.
func TestLists(t *testing.T) {
	for text, want := range map[string][]uint64{
		"": nil, "0": nil, "5": {5}, "-1 22 26 -13": {12, 9}, "13 0 14 26 0": {0, 0, 1}, "18446744073709551616": {3},
	} {
		var l []api.Whole
		for _, s := range strings.Fields(text) {
			l = append(l, num(s))
		}
		if got := residue.Prime(13).Rests(l); !slices.Equal(got, want) {
			t.Errorf("the rests of %s: %v", text, got)
		}
	}
	for _, x := range [][2][]uint64{{nil, nil}, {{0, 0}, nil}, {{1, 0}, {1}}, {{0, 1}, {0, 1}}, {{0, 3, 0, 0}, {0, 3}}} {
		if got := residue.Cut(x[0]); !slices.Equal(got, x[1]) {
			t.Errorf("Cut of %v: %v", x[0], got)
		}
	}
	a := []uint64{1, 2, 0, 12}
	if residue.Prime(13).Scale(a, 7); !slices.Equal(a, []uint64{7, 1, 0, 6}) {
		t.Errorf("Scale: %v", a)
	}
	for i, x := range []struct {
		a, b   []uint64
		factor uint64
		shift  int
		want   []uint64
	}{
		{[]uint64{1, 2, 3}, []uint64{4, 5, 6}, 1, 0, []uint64{10, 10, 10}},
		{[]uint64{1, 2, 3}, []uint64{4, 5}, 2, 1, []uint64{1, 7, 6}},
		{[]uint64{1, 2, 3}, []uint64{1, 5, 6}, 3, 2, []uint64{1, 2, 0}},
		{[]uint64{1, 2, 3}, []uint64{1, 5, 6}, 0, 1, []uint64{1, 2, 3}},
		{[]uint64{1, 2}, []uint64{1, 5}, 1, 2, []uint64{1, 2}},
		{nil, nil, 5, 3, nil},
	} {
		if residue.Prime(13).Take(x.a, x.b, x.factor, x.shift); !slices.Equal(x.a, x.want) {
			t.Errorf("%d: Take: %v", i, x.a)
		}
	}
}

// The greatest rests and factors do not overflow.
func TestGreatestRests(t *testing.T) {
	p := residue.First
	most := uint64(p - 1)
	if x := p.Mul(most, most); x != 1 {
		t.Errorf("Mul: %d", x)
	}
	a := []uint64{most, 0}
	if p.Take(a, []uint64{most, most}, 1, 0); !slices.Equal(a, []uint64{0, 1}) {
		t.Errorf("Take: %v", a)
	}
	if p.Take(a, []uint64{most, most}, most, 0); !slices.Equal(a, []uint64{most, 0}) {
		t.Errorf("Take: %v", a)
	}
}

// Combined finds integers by their rests as soon as the modulus is more than twice as great, and then
// nothing changes any more.
func TestCombined(t *testing.T) {
	r := rand.New(rand.NewSource(2))
	for i := range 60 {
		want := []api.Whole{draw(r, 1+5*i), {}, draw(r, 1+2*i), draw(r, 31)}
		found := residue.Unknown(len(want))
		modulus := big.NewInt(1)
		for p := residue.First; len(found.Modulus.Mag) < 12; p = p.Before() {
			known := sameNumbers(found.List, want)
			var rests []uint64
			for _, n := range want {
				rests = append(rests, p.Rest(n))
			}
			if same := found.Take(p, rests); same != known && enough(modulus, want) {
				t.Fatalf("Take: %v", same)
			}
			modulus.Mul(modulus, bigOf(p))
			if toBig(found.Modulus).Cmp(modulus) != 0 {
				t.Fatalf("the modulus: %s", integer.Text(found.Modulus))
			}
			if enough(modulus, want) != sameNumbers(found.List, want) {
				t.Fatalf("modulo %d: %v, not %v", modulus, found.List, want)
			}
		}
	}
}

// sameNumbers reports whether a and b are the same integers.
func sameNumbers(a, b []api.Whole) bool {
	return slices.EqualFunc(a, b, func(x, y api.Whole) bool { return integer.Cmp(x, y) == 0 })
}

// enough reports whether the modulus is more than twice as great as all integers.
func enough(modulus *big.Int, l []api.Whole) bool {
	for _, n := range l {
		b := toBig(n)
		if b.Abs(b); b.Lsh(b, 1).Cmp(modulus) >= 0 {
			return false
		}
	}
	return true
}

// The elements of Combined are the ones nearest to 0, also at both ends.
func TestNearest(t *testing.T) {
	first, second := residue.First, residue.First.Before()
	product := new(big.Int).Mul(bigOf(first), bigOf(second))
	half := new(big.Int).Rsh(product, 1)
	for _, x := range []struct {
		n    *big.Int
		want *big.Int
	}{
		{half, half},
		{new(big.Int).Neg(half), new(big.Int).Neg(half)},
		{new(big.Int).Add(half, big.NewInt(1)), new(big.Int).Neg(half)},
		{product, new(big.Int)},
	} {
		n := num(x.n.String())
		found := residue.Unknown(1)
		for _, p := range []residue.Prime{first, second} {
			found.Take(p, []uint64{p.Rest(n)})
		}
		if got := toBig(found.List[0]); got.Cmp(x.want) != 0 {
			t.Errorf("for %d: %d, not %d", x.n, got, x.want)
		}
	}
}

// Take reports whether the list had the rests already.
func TestSame(t *testing.T) {
	found := residue.Unknown(2)
	for i, x := range []struct {
		rests []uint64
		same  bool
	}{{[]uint64{0, 0}, true}, {[]uint64{0, 1}, false}, {[]uint64{0, 5}, false}} {
		if same := found.Take([]residue.Prime{11, 13, 17}[i], x.rests); same != x.same {
			t.Errorf("%d: %v", i, same)
		}
	}
}
