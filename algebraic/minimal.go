package algebraic

import (
	"math/bits"
	"sort"

	"linkwork/api"
	"linkwork/fraction"
	"linkwork/poly"
	"linkwork/tower"
)

// Minimal returns a polynomial with the root x: the product of X - x and all that come of it when
// roots of its short form are negated.
func Minimal(t api.Tower, x api.Num) (api.Poly, error) {
	if _, err := tower.Lift(t, x); err != nil {
		return nil, err
	}
	x = tower.Short(x)
	level := max(0, bits.Len(uint(len(x)))-1)
	// The chapter's steps, one root after the other, are the steps of Norm, and remain so when a
	// number is put in for X first. The polynomial is found by its values: it has the degree 2^level.
	var places, values []api.Rat
	for i := range 1<<level + 1 {
		place := fraction.Of(i)
		places = append(places, place)
		values = append(values, norm(t, level, minus(t, tower.Of(place), x)))
	}
	return poly.Through(places, values)
}

// minus returns a - b, numbers of t without errors.
func minus(t api.Tower, a, b api.Num) api.Num {
	c, _ := tower.Sub(t, a, b)
	return c
}

// norm returns the norm of the norm .. of a, a number made with the first roots of t, as many as level
// says.
func norm(t api.Tower, level int, a api.Num) api.Rat {
	for k := level; k > 0; k-- {
		// The roots and the number have no errors: Norm has none.
		a, _ = tower.Norm(api.Tower{Roots: t.Roots[:k]}, a)
	}
	x, _ := tower.Rat(api.Tower{}, a)
	return x
}

// Number returns that root of Minimal(t, x) that has the value of x.
func Number(t api.Tower, x api.Num) (api.Alg, error) {
	p, err := Minimal(t, x)
	if err != nil {
		return api.Alg{}, err
	}
	// p has no error, and is not 0: Roots has no error.
	roots, _ := Roots(p)
	// The intervals have at most ends in common, where there are no roots but points: the first one
	// that does not end before x contains it.
	i := sort.Search(len(roots)-1, func(i int) bool {
		sign, _ := tower.Cmp(t, x, tower.Of(roots[i].R.Hi))
		return sign <= 0
	})
	return roots[i], nil
}
