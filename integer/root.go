package integer

import "math/bits"

// root returns the greatest number whose square is at most a.
func root(a []uint32) []uint32 {
	if len(a) <= 2 {
		return split(smallRoot(low(a)))
	}
	// The root of the upper half of the bits gives the upper half of the bits of the root, so
	// that Newton's method has little left to do.
	shift := bitsOf(a) / 4
	above := add(root(shiftDown(a, 2*shift)), []uint32{1})
	x := trim(shiftUp(above, shift))
	for {
		// From above the root the steps go down until they reach it.
		q, _ := divide(a, x)
		next := shiftDown(add(x, q), 1)
		if compare(next, x) >= 0 {
			return x
		}
		x = next
	}
}

// smallRoot returns the greatest number whose square is at most a.
func smallRoot(a uint64) uint64 {
	if a == 0 {
		return 0
	}
	x := uint64(1) << ((bits.Len64(a) + 1) / 2)
	for {
		next := (x + a/x) / 2
		if next >= x {
			return x
		}
		x = next
	}
}
