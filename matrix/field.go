package matrix

import (
	"linkwork/api"
	"linkwork/fraction"
	"linkwork/tower"
)

// The functions of this file expect towers and numbers that have no errors: then the functions of
// package tower that they call have none.

// field has the values of the numbers of a tower. Its own tower has only those roots that are not the
// values of numbers with the roots before them: by these each value has a single list, and no list but
// that of 0 has the value 0.
type field struct {
	tower api.Tower
	// kept are the numbers of the roots in the given tower.
	kept []int
	// products are the lists of the products of the roots of the given tower.
	products []api.Num
	order    *order
}

// fieldOf returns the field of a tower.
func fieldOf(t api.Tower) *field {
	f := &field{products: []api.Num{tower.Of(fraction.Of(1))}}
	for k, d := range t.Roots {
		f.grow(k, f.list(d))
	}
	f.order = orderOf(f.tower)
	return f
}

// grow adds the root k of the given tower, the root of d.
func (f *field) grow(k int, d api.Num) {
	root, known := squareRoot(f.tower, d)
	if !known {
		for _, x := range f.products {
			f.products = append(f.products, joined(nil, x, len(f.kept)))
		}
		f.tower, _, _ = tower.Extend(f.tower, d)
		f.kept = append(f.kept, k)
		return
	}
	if sign, _ := tower.Sign(f.tower, root); sign < 0 {
		root, _ = tower.Neg(f.tower, root)
	}
	for _, x := range f.products {
		product, _ := tower.Mul(f.tower, x, root)
		f.products = append(f.products, product)
	}
}

// list returns the list of the value of a, a number of the given tower.
func (f *field) list(a api.Num) api.Num {
	if len(f.products) == 1<<len(f.kept) {
		// The towers are the same.
		return tower.Short(a)
	}
	c := make(api.Num, 1<<len(f.kept))
	for i, x := range a {
		if isZero(x) {
			continue
		}
		for k, y := range f.products[i] {
			c[k] = fraction.Add(c[k], fraction.Mul(x, y))
		}
	}
	return tower.Short(c)
}

// rows returns a matrix of numbers of the given tower by the lists of their values.
func (f *field) rows(a [][]api.Num) *rows {
	lists := make([][]api.Num, len(a))
	for i, row := range a {
		for _, x := range row {
			lists[i] = append(lists[i], f.list(x))
		}
	}
	return f.order.rows(lists)
}

// given returns the number of the given tower with the list a.
func (f *field) given(a api.Num) api.Num {
	c := make(api.Num, len(f.products))
	for i, x := range a {
		place := 0
		for bit, k := range f.kept {
			place |= i >> bit & 1 << k
		}
		c[place] = x
	}
	return tower.Short(c)
}

// squareRoot returns a number whose square is a, if there is one. The tower is that of a field.
func squareRoot(t api.Tower, a api.Num) (api.Num, bool) {
	last := len(t.Roots) - 1
	if last < 0 {
		x, _ := tower.Rat(t, a)
		root, ok := fraction.Root(x)
		return tower.Of(root), ok
	}
	below := api.Tower{Roots: t.Roots[:last]}
	x, y := halves(a, last)
	if len(y) == 0 {
		return rootOfBelow(below, x, t.Roots[last])
	}
	// For the root u + v s of x + y s, u^2 + v^2 s^2 is x and 2 u v is y: so the norm is a square, and
	// u^2 is half of the sum of x and a root of the norm.
	n, _ := tower.Norm(t, a)
	root, ok := squareRoot(below, n)
	if !ok {
		return nil, false
	}
	minus, _ := tower.Neg(below, root)
	for _, r := range []api.Num{root, minus} {
		sum, _ := tower.Add(below, x, r)
		half, _ := tower.Div(below, sum, tower.Of(fraction.Of(2)))
		if u, ok := squareRoot(below, half); ok {
			// As y is not 0, u is not 0 either.
			twice, _ := tower.Add(below, u, u)
			v, _ := tower.Div(below, y, twice)
			return joined(u, v, last), true
		}
	}
	return nil, false
}

// rootOfBelow returns a root of a, a number without the last root s, if there is one: a number without s,
// or one times s. d is s^2.
func rootOfBelow(below api.Tower, a, d api.Num) (api.Num, bool) {
	if root, ok := squareRoot(below, a); ok {
		return root, true
	}
	// If a is (v s)^2, then a d is (v d)^2. As the root of a field, d is not 0.
	product, _ := tower.Mul(below, a, d)
	root, ok := squareRoot(below, product)
	if !ok {
		return nil, false
	}
	v, _ := tower.Div(below, root, d)
	return joined(nil, v, len(below.Roots)), true
}

// halves returns x and y of a = x + y s, where s is the root k. a has no later root.
func halves(a api.Num, k int) (x, y api.Num) {
	half := 1 << k
	if len(a) <= half {
		return a, nil
	}
	return tower.Short(a[:half]), tower.Short(a[half:])
}

// joined returns x + y s, where s is the root k. x and y have only roots before it.
func joined(x, y api.Num, k int) api.Num {
	a := make(api.Num, 2<<k)
	copy(a, x)
	copy(a[1<<k:], y)
	return tower.Short(a)
}

// isZero reports whether x, which is valid, is 0.
func isZero(x api.Rat) bool {
	return len(x.Num) == 0
}
