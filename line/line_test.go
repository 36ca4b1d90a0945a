package line_test

import (
	"math/rand"
	"testing"

	"linkwork/api"
	"linkwork/line"
)

// P13.1: the examples of the chapter.
func TestExamples(t *testing.T) {
	u := api.Tower{}
	l := through(t, u, pt("0, 0"), pt("1, 1"))
	expectLine(t, "Through", u, l, ln("-1, 1, 0"))
	expect(t, "Side", u, side(t, u, l, pt("0, 1")), 1)
	m := through(t, u, pt("0, 2"), pt("2, 0"))
	expectPoint(t, "Proper of Meet", u, proper(t, u, meet(t, u, l, m)), pt("1, 1"))
}

// P13.1: results that are known, some of them in towers.
func TestKnown(t *testing.T) {
	u := roots("2", "3 0")
	p, q := pt("1 1, 0 0 1 0"), pt("-1 1, 0 0 2 0")
	expectLine(t, "Through", u, through(t, u, p, q), ln("0 0 -1 0, -2, 0 0 3 1"))
	expectLine(t, "Through", u, through(t, u, q, p), ln("0 0 1 0, 2, 0 0 -3 -1"))
	expectLine(t, "Through", u, through(t, u, pt("3, 5"), pt("3, 7")), ln("-2, 0, 6"))
	expectLine(t, "Through", u, through(t, u, pt("3, 5"), pt("-1, 5")), ln("0, -4, 20"))
	expectPoint(t, "Foot", u, foot(t, u, ln("1, 1, 0 -2"), pt("0, 0")), pt("0 1, 0 1"))
	expectPoint(t, "Foot", u, foot(t, u, ln("0 1, 1, 1"), pt("0 1, 0")), pt("0 0, -1"))
	expectPoint(t, "Foot on a line", u, foot(t, u, ln("0 7, 0, -14"), pt("5, 0 0 1 0")), pt("0 1, 0 0 1 0"))
	expectPoint(t, "Foot of a point on the line", u, foot(t, u, ln("3, 4, -25"), pt("3, 4")), pt("3, 4"))
	expectProj(t, "Meet", u, meet(t, u, ln("1, 2, 3"), ln("4, 5, 6")), pj("-3, 6, -3"))
	expectProj(t, "Meet", u, meet(t, u, ln("0 1, 1, 0"), ln("1, 0 0 1 0, 2")), pj("2, 0 -2, -1 0 0 1"))
	expectProj(t, "Meet at infinity", u, meet(t, u, ln("1, 2, 3"), ln("2, 4, 5")), pj("-2, 1, 0"))
	expectLine(t, "Join", u, join(t, u, pj("1, 2, 3"), pj("4, 5, 6")), ln("-3, 6, -3"))
	expectLine(t, "Join", u, join(t, u, pj("0 1, 1, 0"), pj("1, 0 0 1 0, 2")), ln("2, 0 -2, -1 0 0 1"))
	expectLine(t, "Join of points at infinity", u, join(t, u, pj("1, 2, 0"), pj("2, 5, 0")), ln("0, 0, 1"))
	expectProj(t, "Of", u, of(t, u, p), pj("1 1, 0 0 1 0, 1"))
	expectProj(t, "Of the origin", u, of(t, u, pt(",0 0")), pj("0, 0, 1"))
	expectPoint(t, "Proper", u, proper(t, u, pj("4, 0 -2, 0 1")), pt("0 2, -2"))
	expectPoint(t, "Proper", u, proper(t, u, pj("1, 0, 1 1")), pt("-1 1, 0"))
	expectPoint(t, "Proper of the origin", u, proper(t, u, pj("0, , -3")), pt("0, 0"))
}

// P13.1: signs and answers for lines and points without roots.
func TestPositions(t *testing.T) {
	u := api.Tower{}
	for _, c := range []struct {
		l, p string
		side int
	}{
		{"1, 2, -5", "1, 2", 0}, {"1, 2, -5", "1, 2000000000001/1000000000000", 1},
		{"1, 2, -5", "999999999999/1000000000000, 2", -1}, {"-1, -2, 5", "2, 2", -1}, {"0, -1, 0", "9, -1", 1},
		{"0, 0, -2", "7, 7", -1}, {"0, 0, 3", "7, 7", 1}, {"0, 0, 0", "7, 7", 0}, {", , ", ", ", 0},
	} {
		expect(t, "Side", u, side(t, u, ln(c.l), pt(c.p)), c.side, ofLine(ln(c.l)), ofPoint(pt(c.p)))
	}
	for _, c := range []struct {
		l, m     string
		parallel bool
	}{
		{"1, 2, 3", "1, 2, 4", true}, {"1, 2, 3", "-2, -4, 4", true}, {"1, 2, 3", "1, 2, 3", true},
		{"1, 2, 3", "2, 1, 3", false}, {"1, 2, 3", "-1, 2, 3", false}, {"0, 2, 3", "0, -1, 3", true},
		{"0, 2, 3", "2, 0, 3", false}, {"2, 0, 3", "1/3, 0, 0", true}, {"1, 1, 0", "1000000000000, 1000000000001, 0", false},
	} {
		expect(t, "Parallel", u, parallel(t, u, ln(c.l), ln(c.m)), c.parallel, ofLine(ln(c.l)), ofLine(ln(c.m)))
	}
	for _, c := range []struct {
		l, p string
		on   bool
	}{
		{"1, 2, -5", "1, 2, 1", true}, {"1, 2, -5", "-2, -4, -2", true}, {"1, 2, -5", "1, 2, 2", false},
		{"1, 2, -5", "2, -1, 0", true}, {"1, 2, -5", "1, 2, 0", false}, {"0, 0, 1", "1, 2, 0", true},
		{"0, 0, 1", "1, 2, 1/1000000000000", false}, {"0, 0, 0", "1, 2, 1", true}, {"1, 2, 3", ", , 0", true},
	} {
		expect(t, "On", u, on(t, u, ln(c.l), pj(c.p)), c.on, ofLine(ln(c.l)), ofProj(pj(c.p)))
	}
	for _, c := range []struct {
		p, q string
		same bool
	}{
		{"1, 2, 1", "1, 2, 1", true}, {"1, 2, 1", "-3, -6, -3", true}, {"1, 2, 0", "-1, -2, 0", true},
		{"1, 2, 0", "1, 2, 1", false}, {"1, 2, 1", "1, 2, 2", false}, {"1, 2, 1", "2, 1, 1", false},
		{"1, 2, 3", "1, 4, 3", false}, {"1, 2, 3", "5, 2, 3", false}, {"0, 0, 1", "0, 0, -7", true},
		{"0, 0, 1", "0, 1, 0", false}, {"1, 0, 0", "0, 1, 0", false}, {"1, 0, 0", "0, 0, 1", false},
		{"1, 2, 3", "1, 2, 3000000000001/1000000000000", false},
	} {
		expect(t, "Same", u, same(t, u, pj(c.p), pj(c.q)), c.same, ofProj(pj(c.p)), ofProj(pj(c.q)))
	}
	for _, c := range []struct {
		p, q, r   string
		collinear bool
	}{
		{"1, 2, 1", "4, 8, 2", "3, 6, 1", true}, {"1, 2, 1", "4, 8, 2", "3, 7, 1", false},
		{"1, 2, 0", "-1, 3, 0", "4, 4, 0", true}, {"1, 2, 0", "-1, 3, 0", "4, 4, 1", false},
		{"1, 2, 1", "3, 3, 1", "-4, -2, 0", true}, {"1, 2, 1", "3, 3, 1", "-4, -3, 0", false},
		{"1, 2, 1", "2, 4, 2", "5, 5, 5", true}, {"0, 0, 0", "1, 4, 2", "5, 5, 3", true},
		{"1, 4, 2", "0, 0, 0", "5, 5, 3", true}, {"1, 4, 2", "5, 5, 3", "0, 0, 0", true},
		{"1, 0, 0", "0, 1, 0", "0, 0, 1", false}, {"0, 1, 0", "0, 0, 1", "1, 0, 0", false},
		{"0, 1, 0", "1, 0, 0", "0, 0, 1", false}, {"1, 2, 3", "4, 5, 6", "7, 8, 9", true},
		{"1, 2, 3", "4, 5, 6", "7, 8, 9000000000001/1000000000000", false},
	} {
		p, q, r := pj(c.p), pj(c.q), pj(c.r)
		expect(t, "Collinear", u, collinear(t, u, p, q, r), c.collinear, ofProj(p), ofProj(q), ofProj(r))
	}
}

// P13.1: the same for numbers with roots, which approximations do not tell apart.
func TestPositionsInTowers(t *testing.T) {
	// Above the root of 2, by less than 2^-158.
	near := "1572584048032918633353217/1111984844349868137938112"
	u := roots("2", "3 0", "6 0 0 0")
	expect(t, "Side", u, side(t, u, ln("1, 0, 0 -1"), pt(near+", 0")), 1)
	expect(t, "Side", u, side(t, u, ln("0, "+near+", -2"), pt("0, 0 1")), 1)
	expect(t, "Side", u, side(t, u, ln("0, 0 1, -2"), pt("0, 0 1")), 0)
	expect(t, "Side", u, side(t, u, ln("0, 0 0 1 0, 0 0 0 0 -1 0 0 0"), pt("0, 0 1")), 0)
	expect(t, "Parallel", u, parallel(t, u, ln("0 1, 1, 0"), ln("2, 0 1, 1")), true)
	expect(t, "Parallel", u, parallel(t, u, ln("0 1, 1, 0"), ln(near+", 1, 1")), false)
	expect(t, "Parallel", u, parallel(t, u, ln("0 0 0 0 1 0 0 0, 0 0 1 0, 0"), ln("0 1, 1, 5")), true)
	expect(t, "On", u, on(t, u, ln("0 1, -1, 1"), pj("0 1, 3, 1")), true)
	expect(t, "On", u, on(t, u, ln("0 1, -1, 1"), pj(near+", 3, 1")), false)
	expect(t, "Same", u, same(t, u, pj("1, 0 1, 0 0 1 0"), pj("0 1, 2, 0 0 0 0 1 0 0 0")), true)
	expect(t, "Same", u, same(t, u, pj("1, 0 1, 0 0 1 0"), pj("1, "+near+", 0 0 1 0")), false)
	expect(t, "Collinear", u, collinear(t, u, pj("1, 1, 1"), pj("0 1, 0 1, 1"), pj("0 0 1 0, 0 0 1 0, 1")), true)
	expect(t, "Collinear", u, collinear(t, u, pj("1, 1, 1"), pj("0 1, "+near+", 1"), pj("0 0 1 0, 0 0 1 0, 1")), false)
}

// P13.1: numbers whose value is 0 are 0, whatever their lists are.
func TestZeros(t *testing.T) {
	u := roots("4", "2 -1")
	null, whole := "2 -1", "3 -1 5 7" // 0 and 1
	for _, c := range []struct {
		name string
		err  error
	}{
		{"Through", second(line.Through(u, pt("2, 1"), pt("0 1,"+whole)))},
		{"Foot", second(line.Foot(u, ln(null+", 0 0 1 0, 1"), pt("1, 2")))},
		{"Parallel", second(line.Parallel(u, ln(null+", 0 0 1 0, 1"), ln("1, 2, 3")))},
		{"Parallel", second(line.Parallel(u, ln("1, 2, 3"), ln("0 0 0 1, "+null+", 1")))},
		{"Meet", second(line.Meet(u, ln("1, 2, 3"), ln("2, 4, 4 1")))},
		{"Meet", second(line.Meet(u, ln("1, 2, 3"), ln(null+", 0 0 0 3, -4 2")))},
		{"Meet", second(line.Meet(u, ln(null+", 0 0 0 3, -4 2"), ln("1, 2, 3")))},
		{"Join", second(line.Join(u, pj("1, 2, "+null), pj("2, 4, 0")))},
		{"Join", second(line.Join(u, pj("1, 2, 3"), pj(null+", , 0 0 1 0")))},
		{"Same", second(line.Same(u, pj(null+", 0 0 1 0, 0"), pj("1, 2, 3")))},
		{"Same", second(line.Same(u, pj("1, 2, 3"), pj(null+", 0 0 1 0, 0")))},
		{"Same", second(line.Same(u, pj(", , "+null), pj("0, 0, 0")))},
	} {
		expectErr(t, c.name, u, c.err, api.ErrZero)
	}
	for _, w := range []string{null, "0 0 1 0", "0", "", "-6 3 0 1"} {
		expectErr(t, "Proper", u, second(line.Proper(u, pj("1, 2,"+w))), api.ErrInfeasible)
		expectErr(t, "Proper of none", u, second(line.Proper(u, pj(null+",,"+w))), api.ErrInfeasible)
	}
	expectPoint(t, "Proper", u, proper(t, u, pj("3, 5, "+whole)), pt("3, 5"))
	expectPoint(t, "Foot", u, foot(t, u, ln(null+","+whole+", -3"), pt("7, 8")), pt("7, 3"))
	expect(t, "Same", u, same(t, u, pj("1, 2, "+null), pj("3, 3 0 0 9, 0")), false)
	expect(t, "Same", u, same(t, u, pj("1, 2, "+null), pj("3, 3 3 0 9, 0")), false)
	expect(t, "Same", u, same(t, u, pj("1, 2, "+null), pj("3, 6 0 0 9, 0")), true)
}

// second returns the error of a call.
func second[V any](_ V, err error) error {
	return err
}

// answer is what the model says: the numbers of a result, or the error no if it has none.
type answer[N any] struct {
	numbers []N
	ok      bool
	no      error
}

// checkAnswer compares a result with that of the model. Beside an error there is no number.
func checkAnswer[N any](t *testing.T, what string, u api.Tower, e exact[N], value func(l []api.Num) []N, got outcome, want answer[N]) {
	t.Helper()
	if !want.ok {
		expectErr(t, what, u, got.err, want.no)
		for _, a := range got.numbers {
			expect(t, what+" beside an error", u, len(a), 0, got.numbers)
		}
		return
	}
	checked(t, what, u, got.err, got.numbers...)
	if numbers := value(got.numbers); !e.equal(numbers, want.numbers) {
		t.Fatalf("%s in %s: %v, not %v", what, show(u.Roots...), numbers, want.numbers)
	}
}

// checkModel compares all functions with the model, whose numbers are the values of those of the tower.
func checkModel[N any](t *testing.T, u api.Tower, e exact[N], value func(l []api.Num) []N, points []api.Point, triples [][]api.Num) {
	t.Helper()
	p, q := points[0], points[1]
	a, b, c := triples[0], triples[1], triples[2]
	vp, vq, va, vb, vc := value(ofPoint(p)), value(ofPoint(q)), value(a), value(b), value(c)
	plain := []N{vp[0], vp[1], e.one}
	check := func(what string, numbers []api.Num, err error, want []N, ok bool, no error) {
		t.Helper()
		checkAnswer(t, what, u, e, value, outcome{numbers, 0, err}, answer[N]{want, ok, no})
	}

	l, err := line.Through(u, p, q)
	want, ok := e.through(vp, vq)
	check("Through", ofLine(l), err, want, ok, api.ErrZero)
	f, err := line.Foot(u, asLine(a), p)
	want, ok = e.foot(va, vp)
	check("Foot", ofPoint(f), err, want, ok, api.ErrZero)
	m, err := line.Meet(u, asLine(a), asLine(b))
	want, ok = e.common(va, vb)
	check("Meet", ofProj(m), err, want, ok, api.ErrZero)
	l, err = line.Join(u, asProj(a), asProj(b))
	check("Join", ofLine(l), err, want, ok, api.ErrZero)
	m, err = line.Of(u, p)
	check("Of", ofProj(m), err, plain, true, nil)
	f, err = line.Proper(u, asProj(a))
	want, ok = e.proper(va)
	check("Proper", ofPoint(f), err, want, ok, api.ErrInfeasible)

	expect(t, "Side", u, side(t, u, asLine(a), p), e.sign(e.at(va, plain)), a, ofPoint(p))
	expect(t, "On", u, on(t, u, asLine(a), asProj(b)), e.zero(e.at(va, vb)), a, b)
	expect(t, "Collinear", u, collinear(t, u, asProj(a), asProj(b), asProj(c)), e.zero(e.det(va, vb, vc)), a, b, c)
	is, err := line.Parallel(u, asLine(a), asLine(b))
	holds, ok := e.parallel(va, vb)
	expectTold(t, "Parallel", u, is, err, holds, ok)
	is, err = line.Same(u, asProj(a), asProj(b))
	holds, ok = e.same(va, vb)
	expectTold(t, "Same", u, is, err, holds, ok)
}

// expectTold compares what a function reports with the model, which tells nothing where ErrZero is wanted.
func expectTold(t *testing.T, what string, u api.Tower, is bool, err error, want, ok bool) {
	t.Helper()
	if !ok {
		expectErr(t, what, u, err, api.ErrZero)
		expect(t, what+" beside an error", u, is, false)
	} else if err != nil || is != want {
		t.Fatalf("%s in %s: %v %v, not %v", what, show(u.Roots...), is, err, want)
	}
}

// P13.1: all functions against their definitions, written out with the functions of layer 4.
func TestDefinitions(t *testing.T) {
	r := rand.New(rand.NewSource(1))
	for _, s := range settings() {
		for i := range rounds(s.tower, 120) {
			points, triples := drawPoints(r, s, 2, 1+i%8), drawTriples(r, s, 3, 1+i%8)
			itself := func(l []api.Num) []api.Num { return l }
			checkModel(t, s.tower, inTower(s.tower), itself, points, triples)
		}
	}
}

// P13.1: all functions against math/big, in towers whose roots are known fractions.
func TestFractions(t *testing.T) {
	r := rand.New(rand.NewSource(2))
	for _, s := range squareTowers() {
		for i := range rounds(s.tower, 800) {
			points, triples := drawPoints(r, s.setting, 2, 1+i%20), drawTriples(r, s.setting, 3, 1+i%20)
			checkModel(t, s.tower, inBig(), s.values, points, triples)
		}
	}
}
