package tower

import (
	"linkwork/api"
	"linkwork/integer"
	"linkwork/whole"
)

// wordBits is the number of bits of a word of an integer.
const wordBits = 32

// rootBelow returns the greatest integer whose square is at most a, and whether its square is a.
// a is not below 0.
func rootBelow(a api.Whole) (root api.Whole, exact bool) {
	// As a is not below 0, there is no error.
	root, _ = integer.Root(a)
	return root, integer.Cmp(integer.Mul(root, root), a) == 0
}

// shiftUp returns a times 2^(32 n).
func shiftUp(a api.Whole, n int) api.Whole {
	if whole.IsZero(a) {
		return a
	}
	return api.Whole{Neg: a.Neg, Mag: append(make([]uint32, n), a.Mag...)}
}

// shiftDown returns a over 2^(32 n) rounded down, in the memory of a, and whether that is exact.
// a is not below 0.
func shiftDown(a api.Whole, n int) (below api.Whole, exact bool) {
	n = min(n, len(a.Mag))
	return api.Whole{Mag: a.Mag[n:]}, allZero(a.Mag[:n], func(word uint32) bool { return word == 0 })
}

// roundUp returns the least integer that is not less than a number, of which the greatest one
// that is not greater is given, and whether it is exact.
func roundUp(below api.Whole, exact bool) api.Whole {
	if exact {
		return below
	}
	return integer.Add(below, integer.Of(1))
}
