package tower

import (
	"math/bits"

	"linkwork/api"
	"linkwork/integer"
	"linkwork/whole"
)

// list is a number of a ring: its coefficients by the products of the roots, as in api.Num, but
// integers. Lists are always in the short form; they share memory with one another, and are not
// changed once they are made.
type list []api.Whole

// short cuts off the second half of a as long as it has only zeros, and a single 0.
func short[L ~[]T, T any](a L, isZero func(T) bool) L {
	for len(a) > 0 && allZero(a[len(a)/2:], isZero) {
		a = a[:len(a)/2]
	}
	return a
}

// allZero reports whether all elements of a are 0.
func allZero[L ~[]T, T any](a L, isZero func(T) bool) bool {
	for _, x := range a {
		if !isZero(x) {
			return false
		}
	}
	return true
}

// merge joins each element of a with that of b, both of which go on with zeros.
func merge[L ~[]T, T any](a, b L, join func(x, y T) T, isZero func(T) bool) L {
	c := make(L, max(len(a), len(b)))
	for i := range c {
		c[i] = join(at(a, i), at(b, i))
	}
	return short(c, isZero)
}

// at returns the element i of a, which goes on with zeros.
func at[L ~[]T, T any](a L, i int) T {
	if i < len(a) {
		return a[i]
	}
	var zero T
	return zero
}

// add returns a + b.
func add(a, b list) list {
	return merge(a, b, integer.Add, whole.IsZero)
}

// sub returns a - b.
func sub(a, b list) list {
	return merge(a, b, integer.Sub, whole.IsZero)
}

// scale returns a * n.
func scale(a list, n api.Whole) list {
	c := make(list, len(a))
	for i, x := range a {
		c[i] = integer.Mul(x, n)
	}
	return short(c, whole.IsZero)
}

// primitive returns a without the greatest common divisor of its coefficients, and this divisor.
func primitive(a list) (list, api.Whole) {
	one := integer.Of(1)
	common := api.Whole{}
	for _, x := range a {
		common = integer.Gcd(common, x)
		if integer.Cmp(common, one) == 0 {
			return a, one
		}
	}
	c := make(list, len(a))
	for i, x := range a {
		c[i] = whole.Quotient(x, common)
	}
	return c, common
}

// lastRoot returns the number of the last root in a, -1 if there is none.
func lastRoot(a list) int {
	return bits.Len(uint(len(a))) - 2
}

// halves returns x and y of a = x + y s, where s is the root k. a has no later root.
func halves(a list, k int) (x, y list) {
	half := 1 << k
	if len(a) <= half {
		return a, nil
	}
	return short(a[:half], whole.IsZero), short(a[half:], whole.IsZero)
}

// join returns x + y s, where s is the root k. x and y have only roots before it.
func join(x, y list, k int) list {
	if len(y) == 0 {
		return x
	}
	a := make(list, 2<<k)
	copy(a, x)
	copy(a[1<<k:], y)
	return a
}

// longest returns the number of bits of the longest coefficient of a.
func longest(a list) int {
	most := 0
	for _, x := range a {
		most = max(most, integer.Bits(x))
	}
	return most
}
