// Package integer is layer 1, integers of any size: see shared/doc/01-integer.md.
//
// The exported functions treat the signs; the other files compute with absolute values,
// which are lists of words without a 0 at the end.
package integer

import (
	"slices"

	"linkwork/api"
)

// Valid reports whether a is valid: the last word is not 0, and 0 has no sign.
func Valid(a api.Whole) bool {
	if len(a.Mag) == 0 {
		return !a.Neg
	}
	return a.Mag[len(a.Mag)-1] != 0
}

// known returns a, or 0 if a is not valid.
func known(a api.Whole) api.Whole {
	if !Valid(a) {
		return api.Whole{}
	}
	return a
}

// signed returns the integer of a sign and an absolute value, which it keeps.
func signed(neg bool, mag []uint32) api.Whole {
	if len(mag) == 0 {
		return api.Whole{}
	}
	return api.Whole{Neg: neg, Mag: mag}
}

// Of returns n.
func Of(n int) api.Whole {
	size := uint64(n)
	if n < 0 {
		// The wraparound of unsigned numbers is right for -2^63 too, whose negative is no int.
		size = -size
	}
	return signed(n < 0, split(size))
}

// Int returns a and true if a is an int, otherwise 0 and false.
func Int(a api.Whole) (int, bool) {
	a = known(a)
	if len(a.Mag) > 2 {
		return 0, false
	}
	size := low(a.Mag)
	if a.Neg {
		if size > 1<<63 {
			return 0, false
		}
		return int(-size), true
	}
	if size >= 1<<63 {
		return 0, false
	}
	return int(size), true
}

// Sign returns -1, 0 or 1.
func Sign(a api.Whole) int {
	a = known(a)
	switch {
	case len(a.Mag) == 0:
		return 0
	case a.Neg:
		return -1
	}
	return 1
}

// Cmp returns the sign of a - b.
func Cmp(a, b api.Whole) int {
	a, b = known(a), known(b)
	switch {
	case a.Neg && b.Neg:
		return compare(b.Mag, a.Mag)
	case a.Neg:
		return -1
	case b.Neg:
		return 1
	}
	return compare(a.Mag, b.Mag)
}

// Neg returns -a.
func Neg(a api.Whole) api.Whole {
	a = known(a)
	return signed(!a.Neg, slices.Clone(a.Mag))
}

// Add returns a + b.
func Add(a, b api.Whole) api.Whole {
	a, b = known(a), known(b)
	return sum(a.Neg, a.Mag, b.Neg, b.Mag)
}

// Sub returns a - b.
func Sub(a, b api.Whole) api.Whole {
	a, b = known(a), known(b)
	return sum(a.Neg, a.Mag, !b.Neg, b.Mag)
}

// sum adds two numbers, each a sign and an absolute value.
func sum(negA bool, a []uint32, negB bool, b []uint32) api.Whole {
	switch {
	case negA == negB:
		return signed(negA, add(a, b))
	case compare(a, b) < 0:
		return signed(negB, subtract(b, a))
	}
	return signed(negA, subtract(a, b))
}

// Mul returns a * b.
func Mul(a, b api.Whole) api.Whole {
	a, b = known(a), known(b)
	return signed(a.Neg != b.Neg, multiply(a.Mag, b.Mag))
}

// Div returns the quotient q and the rest r with a = q * b + r and 0 <= r < |b|.
func Div(a, b api.Whole) (q, r api.Whole, err error) {
	a, b = known(a), known(b)
	if len(b.Mag) == 0 {
		return api.Whole{}, api.Whole{}, api.ErrZero
	}
	quotient, rest := divide(a.Mag, b.Mag)
	if a.Neg && len(rest) > 0 {
		// The rest of the absolute values counts below 0 here: one more |b| lifts it above.
		quotient = add(quotient, []uint32{1})
		rest = subtract(b.Mag, rest)
	}
	return signed(a.Neg != b.Neg, quotient), signed(false, rest), nil
}

// Gcd returns the greatest common divisor, which is not below 0; Gcd(0, 0) is 0.
func Gcd(a, b api.Whole) api.Whole {
	a, b = known(a), known(b)
	return signed(false, divisor(a.Mag, b.Mag))
}

// Root returns the greatest integer whose square is at most a.
func Root(a api.Whole) (api.Whole, error) {
	a = known(a)
	if a.Neg {
		return api.Whole{}, api.ErrRange
	}
	return signed(false, root(a.Mag)), nil
}

// Bits returns the number of bits of the absolute value, 0 for 0.
func Bits(a api.Whole) int {
	return bitsOf(known(a).Mag)
}

// Text returns the decimal digits, with "-" in front if a is below 0.
func Text(a api.Whole) string {
	a = known(a)
	var text []byte
	if a.Neg {
		text = append(text, '-')
	}
	return string(appendDigits(text, a.Mag))
}

// Parse returns the integer whose Text is s.
func Parse(s string) (api.Whole, error) {
	if len(s) > api.MaxText {
		return api.Whole{}, api.ErrLarge
	}
	digits, neg := s, false
	if len(s) > 0 && s[0] == '-' {
		digits, neg = s[1:], true
	}
	if !plain(digits) || neg && digits == "0" {
		return api.Whole{}, api.ErrForm
	}
	return signed(neg, readDigits(digits)), nil
}
