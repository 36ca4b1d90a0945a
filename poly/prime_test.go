package poly

import (
	"math/big"
	"testing"
)

// P5.3: the numbers modulo which common divisors are found are primes, and none is left out.
func TestBefore(t *testing.T) {
	if !new(big.Int).SetUint64(uint64(firstPrime)).ProbablyPrime(20) {
		t.Errorf("no prime: %d", firstPrime)
	}
	n := uint64(firstPrime)
	for p := firstPrime; p > firstPrime-20000; {
		p = p.before()
		for n--; !new(big.Int).SetUint64(n).ProbablyPrime(20); n-- {
		}
		if uint64(p) != n {
			t.Fatalf("%d, not %d", p, n)
		}
	}
	for n := uint64(13); n < 5000; n += 2 {
		if prime(n).holds() != new(big.Int).SetUint64(n).ProbablyPrime(20) {
			t.Errorf("%d", n)
		}
	}
	// These numbers are no primes, but behave like primes for the first bases.
	for _, n := range []prime{2047, 1373653, 25326001} {
		if n.holds() {
			t.Errorf("no prime: %d", n)
		}
	}
}
