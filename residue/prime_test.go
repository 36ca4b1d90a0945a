package residue

import (
	"math/big"
	"testing"
)

// The numbers modulo which is computed are primes, and none is left out.
func TestBefore(t *testing.T) {
	if !new(big.Int).SetUint64(uint64(First)).ProbablyPrime(20) {
		t.Errorf("no prime: %d", First)
	}
	n := uint64(First)
	for p := First; p > First-20000; {
		p = p.Before()
		for n--; !new(big.Int).SetUint64(n).ProbablyPrime(20); n-- {
		}
		if uint64(p) != n {
			t.Fatalf("%d, not %d", p, n)
		}
	}
	for n := uint64(13); n < 5000; n += 2 {
		if Prime(n).holds() != new(big.Int).SetUint64(n).ProbablyPrime(20) {
			t.Errorf("%d", n)
		}
	}
	// These numbers are no primes, but behave like primes for the first bases.
	for _, n := range []Prime{2047, 1373653, 25326001} {
		if n.holds() {
			t.Errorf("no prime: %d", n)
		}
	}
}
