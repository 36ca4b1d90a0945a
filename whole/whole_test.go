package whole_test

import (
	"slices"
	"strings"
	"testing"

	"linkwork/api"
	"linkwork/fraction"
	"linkwork/integer"
	"linkwork/whole"
)

// num returns the integer of a text.
func num(s string) api.Whole {
	n, err := integer.Parse(s)
	if err != nil {
		panic(s + " is no integer")
	}
	return n
}

// list returns the integers of a text with spaces.
func list(s string) []api.Whole {
	var a []api.Whole
	for _, c := range strings.Fields(s) {
		a = append(a, num(c))
	}
	return a
}

// poly returns the fractions of a text with spaces.
func poly(s string) api.Poly {
	var p api.Poly
	for _, c := range strings.Fields(s) {
		p = append(p, rat(c))
	}
	return p
}

// rat returns the fraction of a text.
func rat(s string) api.Rat {
	x, err := fraction.Parse(s)
	if err != nil {
		panic(s + " is no fraction")
	}
	return x
}

// show returns the texts of some integers.
func show(a ...api.Whole) string {
	var texts []string
	for _, n := range a {
		texts = append(texts, integer.Text(n))
	}
	return strings.Join(texts, " ")
}

// expect compares the texts of integers with the wanted ones.
func expect(t *testing.T, name, want string, got ...api.Whole) {
	t.Helper()
	if s := show(got...); s != want {
		t.Errorf("%s: %s, not %s", name, s, want)
	}
}

func TestIntegers(t *testing.T) {
	for n, want := range map[string]bool{"0": true, "1": false, "-1": false, "18446744073709551616": false} {
		if whole.IsZero(num(n)) != want {
			t.Errorf("IsZero(%s)", n)
		}
	}
	for _, x := range [][3]string{
		{"12", "3", "4"}, {"12", "-3", "-4"}, {"-12", "-3", "4"}, {"7", "2", "3"}, {"-7", "2", "-4"}, {"0", "5", "0"},
		{"340282366920938463463374607431768211456", "18446744073709551616", "18446744073709551616"},
	} {
		expect(t, "Quotient of "+x[0]+" and "+x[1], x[2], whole.Quotient(num(x[0]), num(x[1])))
	}
	for _, x := range [][3]string{{"1", "1", "1"}, {"4", "6", "12"}, {"6", "4", "12"}, {"5", "7", "35"}, {"8", "2", "8"}} {
		expect(t, "Multiple of "+x[0]+" and "+x[1], x[2], whole.Multiple(num(x[0]), num(x[1])))
	}
	for _, x := range [][3]string{{"6", "4", "3/2"}, {"6", "-4", "-3/2"}, {"0", "9", "0"}, {"-5", "1", "-5"}} {
		if got := fraction.Text(whole.Ratio(num(x[0]), num(x[1]))); got != x[2] {
			t.Errorf("Ratio of %s and %s: %s", x[0], x[1], got)
		}
	}
	power := integer.Of(1)
	for n := range 200 {
		expect(t, "PowerOfTwo", integer.Text(power), whole.PowerOfTwo(n))
		power = integer.Add(power, power)
	}
}

func TestEnds(t *testing.T) {
	for _, x := range [][3]string{
		{"0", "0", "0 0 1"}, {"-3", "5", "-3 5 1"}, {"1/4", "1/6", "3 2 12"}, {"-1/2", "2", "-1 4 2"}, {"2/3", "2/3", "2 2 3"},
	} {
		lo, hi, unit := whole.Ends(api.Range{Lo: rat(x[0]), Hi: rat(x[1])})
		expect(t, "Ends of "+x[0]+".."+x[1], x[2], lo, hi, unit)
	}
}

func TestLists(t *testing.T) {
	for _, x := range [][3]string{
		{"", "", "1"}, {"5", "5", "1"}, {"1/2 0 -2/3", "3 0 -4", "6"}, {"4 6", "4 6", "1"}, {"0 0 7/9", "0 0 7", "9"},
	} {
		a, den := whole.List(poly(x[0]))
		expect(t, "List of "+x[0], x[1], a...)
		expect(t, "List of "+x[0], x[2], den)
	}
	for _, x := range [][3]string{
		{"", "2", ""}, {"3 0 -4", "1/6", "1/2 0 -2/3"}, {"3 0 -4", "-6/5", "-18/5 0 24/5"}, {"10 -6", "7/4", "35/2 -21/2"},
	} {
		same := func(x, y api.Rat) bool { return fraction.Cmp(x, y) == 0 }
		if p := whole.Poly(list(x[0]), rat(x[1])); !slices.EqualFunc(p, poly(x[2]), same) {
			t.Errorf("Poly of %s and %s: %v", x[0], x[1], p)
		}
	}
	for _, x := range [][3]string{
		{"", "", "0"}, {"4 -6 0", "2 -3 0", "2"}, {"-5", "-1", "5"}, {"3 7 9", "3 7 9", "1"}, {"0 12 18", "0 2 3", "6"},
	} {
		b, common := whole.Primitive(list(x[0]))
		expect(t, "Primitive of "+x[0], x[1], b...)
		expect(t, "Primitive of "+x[0], x[2], common)
	}
	for _, x := range [][3]string{
		{"", "", "0"}, {"5", "1", "5"}, {"-2/3", "-1", "2/3"}, {"3 -6 0 9/2", "2 -4 0 3", "3/2"}, {"1/2 1/3", "3 2", "1/6"},
	} {
		a, factor := whole.Split(poly(x[0]))
		expect(t, "Split of "+x[0], x[1], a...)
		if got := fraction.Text(factor); got != x[2] {
			t.Errorf("Split of %s: %s", x[0], got)
		}
	}
	for _, x := range [][2]string{{"", ""}, {"0", ""}, {"0 0", ""}, {"1 0 0", "1"}, {"0 3 0", "0 3"}, {"1 2", "1 2"}} {
		expect(t, "Cut of "+x[0], x[1], whole.Cut(list(x[0]))...)
	}
}

func TestValue(t *testing.T) {
	for _, x := range []struct {
		a, n, d, top, bottom string
		sign                 int
	}{
		{"", "3", "2", "0", "1", 0},
		{"5", "3", "2", "5", "1", 1},
		{"-2 0 1", "3", "2", "1", "4", 1},
		{"-2 0 1", "7", "5", "-1", "25", -1},
		{"-3 2", "3", "2", "0", "2", 0},
		{"1 1 1 1", "-2", "1", "-5", "1", -1},
	} {
		top, bottom := whole.Value(list(x.a), num(x.n), num(x.d))
		expect(t, "Value of "+x.a, x.top, top)
		expect(t, "Value of "+x.a, x.bottom, bottom)
		if sign := whole.Sign(list(x.a), num(x.n), num(x.d)); sign != x.sign {
			t.Errorf("Sign of %s: %d", x.a, sign)
		}
	}
}

// The roots of products of x - c are nearer to 0 than Reach, and not by much.
func TestReach(t *testing.T) {
	for _, x := range []struct{ a, least, most string }{
		{"7", "2", "2"},
		{"0 1", "2", "2"},
		{"-1 1", "2", "4"},
		{"-1000 1", "1001", "4096"},
		{"6 -5 1", "4", "64"},
		{"1 -1000000", "2", "2"},
		{"0 0 0 1", "2", "2"},
		{"-18446744073709551616 0 0 0 1", "65537", "1048576"},
	} {
		reach := whole.Reach(list(x.a))
		if fraction.Cmp(reach, rat(x.least)) < 0 || fraction.Cmp(reach, rat(x.most)) > 0 {
			t.Errorf("Reach of %s: %s", x.a, fraction.Text(reach))
		}
	}
}
