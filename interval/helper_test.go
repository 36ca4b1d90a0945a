package interval_test

import (
	"math/rand"
	"slices"
	"testing"

	"linkwork/api"
	"linkwork/fraction"
	"linkwork/integer"
	"linkwork/interval"
)

// num returns the fraction whose text is s.
func num(s string) api.Rat {
	x, err := fraction.Parse(s)
	if err != nil {
		panic(s + " is no fraction")
	}
	return x
}

// span returns lo..hi, also if it is not valid.
func span(lo, hi string) api.Range {
	return api.Range{Lo: num(lo), Hi: num(hi)}
}

// same reports whether the fields of x and y are equal.
func same(x, y api.Rat) bool {
	return x.Neg == y.Neg && slices.Equal(x.Num, y.Num) && slices.Equal(x.Den, y.Den)
}

// sameSpan reports whether the fields of a and b are equal.
func sameSpan(a, b api.Range) bool {
	return same(a.Lo, b.Lo) && same(a.Hi, b.Hi)
}

// show returns the text of a, which need not be valid.
func show(a api.Range) string {
	return fraction.Text(a.Lo) + ".." + fraction.Text(a.Hi)
}

// sound reports whether a is valid, without the help of the package.
func sound(a api.Range) bool {
	return fraction.Valid(a.Lo) && fraction.Valid(a.Hi) && fraction.Cmp(a.Lo, a.Hi) <= 0
}

// holds reports whether x is in a, without the help of the package.
func holds(a api.Range, x api.Rat) bool {
	return fraction.Cmp(a.Lo, x) <= 0 && fraction.Cmp(x, a.Hi) <= 0
}

// expect checks that got is valid and has the ends of want.
func expect(t *testing.T, what string, got, want api.Range) {
	t.Helper()
	if !sound(got) || !sameSpan(got, want) {
		t.Fatalf("%s: %s, not %s", what, show(got), show(want))
	}
}

// expectError checks that there is an error, and no other result.
func expectError(t *testing.T, what string, got api.Range, err error, want api.Errno) {
	t.Helper()
	if err != want || !sameSpan(got, api.Range{}) {
		t.Fatalf("%s: %s, %v, not %v", what, show(got), err, want)
	}
}

// over returns x / y, for y other than 0.
func over(x, y api.Rat) api.Rat {
	q, err := fraction.Div(x, y)
	if err != nil {
		panic("a division by 0")
	}
	return q
}

// unit returns 2^-bits.
func unit(bits int) api.Rat {
	words := make([]uint32, bits/32+1)
	words[bits/32] = 1 << (bits % 32)
	return over(fraction.Of(1), whole(words))
}

// whole returns the number of some words.
func whole(words []uint32) api.Rat {
	for len(words) > 0 && words[len(words)-1] == 0 {
		words = words[:len(words)-1]
	}
	x, err := fraction.From(api.Whole{Mag: words}, integer.Of(1))
	if err != nil {
		panic("no number")
	}
	return x
}

// ends returns ascending fractions: 0, small ones, some around the borders of words, long ones, and
// long ones that are close to one another.
func ends() []api.Rat {
	third := num("1/3")
	near := fraction.Add(third, unit(300))
	long := num("340282366920938463463374607431768211457/18446744073709551617")
	sizes := []api.Rat{
		unit(256), num("1/4294967297"), num("1/4"), third, near, num("1/2"), num("1"), num("3/2"), num("2"), num("3"),
		num("2147483648"), num("4294967295"), num("4294967296"), num("18446744073709551616"), long,
	}
	all := []api.Rat{{}}
	for _, x := range sizes {
		all = append(all, x, fraction.Neg(x))
	}
	slices.SortFunc(all, fraction.Cmp)
	return all
}

// spans returns the intervals between ends.
func spans() []api.Range {
	var all []api.Range
	list := ends()
	for i, lo := range list {
		for _, hi := range list[i:] {
			all = append(all, api.Range{Lo: lo, Hi: hi})
		}
	}
	return all
}

// smallSpans returns the intervals between a few numbers, among them those of all positions about 0.
func smallSpans() []api.Range {
	var all []api.Range
	list := []string{"-5", "-3", "-2/3", "-1/7", "0", "1/7", "1/2", "2", "4"}
	for i, lo := range list {
		for _, hi := range list[i:] {
			all = append(all, span(lo, hi))
		}
	}
	return all
}

// drawWords returns a number of up to the given number of words.
func drawWords(r *rand.Rand, most int) []uint32 {
	words := make([]uint32, r.Intn(most)+1)
	for i := range words {
		words[i] = r.Uint32() >> r.Intn(32)
	}
	return words
}

// draw returns a fraction whose parts have up to the given number of words.
func draw(r *rand.Rand, most int) api.Rat {
	bottom := whole(drawWords(r, most))
	x := over(whole(drawWords(r, most)), fraction.Add(bottom, fraction.Of(1)))
	if r.Intn(2) == 0 {
		return fraction.Neg(x)
	}
	return x
}

// between returns an interval between two fractions.
func between(x, y api.Rat) api.Range {
	return api.Range{Lo: fraction.Min(x, y), Hi: fraction.Max(x, y)}
}

// drawSpan returns an interval, now and then a single number or one with the end 0.
func drawSpan(r *rand.Rand, most int) api.Range {
	x, y := draw(r, most), draw(r, most)
	switch r.Intn(8) {
	case 0:
		y = x
	case 1:
		y = api.Rat{}
	}
	return between(x, y)
}

// pairs returns pairs of intervals: all pairs of small ones, and drawn ones.
func pairs() [][2]api.Range {
	r := rand.New(rand.NewSource(1))
	small, all := smallSpans(), spans()
	var list [][2]api.Range
	for _, a := range small {
		for _, b := range small {
			list = append(list, [2]api.Range{a, b})
		}
	}
	for range 4000 {
		list = append(list, [2]api.Range{all[r.Intn(len(all))], all[r.Intn(len(all))]})
	}
	for i := range 2000 {
		list = append(list, [2]api.Range{drawSpan(r, 1+i%9), drawSpan(r, 1+i%9)})
	}
	return list
}

// unsound returns fractions that are not valid.
func unsound() []api.Rat {
	return []api.Rat{
		{Neg: true},
		{Num: []uint32{1}},
		{Den: []uint32{1}},
		{Neg: true, Den: []uint32{3}},
		{Num: []uint32{0}, Den: []uint32{1}},
		{Num: []uint32{7, 0}, Den: []uint32{3}},
		{Num: []uint32{7}, Den: []uint32{3, 0}},
		{Num: []uint32{2}, Den: []uint32{4}},
		{Neg: true, Num: []uint32{9}, Den: []uint32{6}},
		{Num: []uint32{3, 3, 3, 3}, Den: []uint32{5, 5, 5, 5}},
		{Neg: true, Num: []uint32{3, 3, 3, 3}, Den: []uint32{5, 5, 5, 5}},
	}
}

// invalid returns intervals that are not valid.
func invalid() []api.Range {
	all := []api.Range{
		span("1", "0"), span("0", "-1"), span("2", "-2"), span("-2", "-3"), span("1/2", "1/3"), span("5", "4"),
		span("340282366920938463463374607431768211457/3", "340282366920938463463374607431768211456/3"),
		span("-1/18446744073709551617", "-1/18446744073709551616"),
	}
	for _, x := range unsound() {
		for _, y := range []string{"-10", "0", "10"} {
			all = append(all, api.Range{Lo: x, Hi: num(y)}, api.Range{Lo: num(y), Hi: x})
		}
		all = append(all, api.Range{Lo: x, Hi: x})
	}
	return all
}

// answer is what a function returns: an interval and an error, or what there is of them.
type answer struct {
	span api.Range
	err  error
}

// unary returns the functions of one interval with an interval as result.
func unary() map[string]func(a api.Range) answer {
	return map[string]func(a api.Range) answer{
		"Neg":      func(a api.Range) answer { return answer{span: interval.Neg(a)} },
		"Width":    func(a api.Range) answer { return answer{span: single(interval.Width(a))} },
		"Mid":      func(a api.Range) answer { return answer{span: single(interval.Mid(a))} },
		"Out 0":    func(a api.Range) answer { return answerOf(interval.Out(a, 0)) },
		"Out 7":    func(a api.Range) answer { return answerOf(interval.Out(a, 7)) },
		"Out 256":  func(a api.Range) answer { return answerOf(interval.Out(a, 256)) },
		"Root 0":   func(a api.Range) answer { return answerOf(interval.Root(a, 0)) },
		"Root 7":   func(a api.Range) answer { return answerOf(interval.Root(a, 7)) },
		"Root 256": func(a api.Range) answer { return answerOf(interval.Root(a, 256)) },
		"Make":     func(a api.Range) answer { return answerOf(interval.Make(a.Lo, a.Hi)) },
		"Point":    func(a api.Range) answer { return answer{span: interval.Point(a.Lo)} },
	}
}

// binary returns the functions of two intervals with an interval as result.
func binary() map[string]func(a, b api.Range) answer {
	return map[string]func(a, b api.Range) answer{
		"Add":  func(a, b api.Range) answer { return answer{span: interval.Add(a, b)} },
		"Sub":  func(a, b api.Range) answer { return answer{span: interval.Sub(a, b)} },
		"Mul":  func(a, b api.Range) answer { return answer{span: interval.Mul(a, b)} },
		"Div":  func(a, b api.Range) answer { return answerOf(interval.Div(a, b)) },
		"Hull": func(a, b api.Range) answer { return answer{span: interval.Hull(a, b)} },
		"Meet": func(a, b api.Range) answer { return answerOf(interval.Meet(a, b)) },
	}
}

// single returns an interval with the number x, in the same memory, and an end 0 on one side if there is one.
func single(x api.Rat) api.Range {
	if fraction.Sign(x) < 0 {
		return api.Range{Lo: x}
	}
	return api.Range{Hi: x}
}

func answerOf(a api.Range, err error) answer {
	return answer{a, err}
}

// cloned returns a in memory of its own.
func cloned(a api.Range) api.Range {
	return api.Range{Lo: clonedEnd(a.Lo), Hi: clonedEnd(a.Hi)}
}

func clonedEnd(x api.Rat) api.Rat {
	return api.Rat{Neg: x.Neg, Num: slices.Clone(x.Num), Den: slices.Clone(x.Den)}
}

// scratch overwrites all the memory of an end, behind the end of its words too.
func scratch(x api.Rat) {
	for _, words := range [][]uint32{x.Num, x.Den} {
		words = words[:cap(words)]
		for i := range words {
			words[i] = 0xdeadbeef
		}
	}
}
