package matrix

import (
	"linkwork/api"
	"linkwork/fraction"
	"linkwork/integer"
	"linkwork/residue"
)

// product returns the product of a and b.
func product(o *order, a, b [][]api.Num) [][]api.Num {
	left, right := o.rows(a), o.rows(transposed(b))
	n, all := len(o.units), left.products(right)
	c := make([][]api.Num, len(a))
	for i, f := range left.factors {
		for _, g := range right.factors {
			c[i] = append(c[i], o.number(all[:n], fraction.Mul(f, g)))
			all = all[n:]
		}
	}
	return c
}

// transposed returns the columns of a as rows.
func transposed(a [][]api.Num) [][]api.Num {
	c := make([][]api.Num, width(a))
	for _, row := range a {
		for k, x := range row {
			c[k] = append(c[k], x)
		}
	}
	return c
}

// products returns the product of each row of a and each row of b: of the numbers in the same columns,
// summed. Both have the same order and width.
func (a *rows) products(b *rows) []api.Whole {
	found := residue.Unknown(len(a.lists) * len(b.lists) * len(a.units))
	// The size of the sum is at most the product of the sums of the sizes.
	left, _ := a.sizes()
	right, _ := b.sizes()
	least := greatestBits(left, 1) + greatestBits(right, 1) + 1
	for p := residue.First; integer.Bits(found.Modulus) <= least; p = p.Before() {
		found.Take(p, a.productsModulo(p, b))
	}
	return found.List
}

// productsModulo returns the products modulo a prime.
func (a *rows) productsModulo(p residue.Prime, b *rows) []uint64 {
	r := a.modulo(p)
	right := make([][]uint64, len(b.lists))
	for k, list := range b.lists {
		right[k] = r.all(list)
	}
	var all []uint64
	for _, list := range a.lists {
		left := r.all(list)
		for k := range right {
			all = append(all, r.product(left, right[k])...)
		}
	}
	return all
}

// product returns the product of two rows.
func (r *rests) product(a, b []uint64) []uint64 {
	sum := r.zero()
	n := len(sum)
	for k := 0; k < len(a); k += n {
		r.add(sum, a[k:k+n], b[k:k+n])
	}
	return sum
}
