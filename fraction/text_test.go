package fraction_test

import (
	"math/big"
	"math/rand"
	"strings"
	"testing"

	"linkwork/api"
	"linkwork/fraction"
)

// P2.5: Parse of the Text of a fraction is the fraction, and Text of what is parsed is the text.
func TestTextAndParse(t *testing.T) {
	r := rand.New(rand.NewSource(9))
	all := edges()
	for i := range 3000 {
		all = append(all, draw(r, 8+i%500))
	}
	sevens := new(big.Rat)
	sevens.SetString(strings.Repeat("7", 900) + "/1" + strings.Repeat("0", 900))
	all = append(all, fromBig(sevens), fromBig(new(big.Rat).Inv(sevens)))
	for _, a := range all {
		text := fraction.Text(a)
		if want := toBig(t, a).RatString(); text != want {
			t.Fatalf("Text: %s, not %s", text, want)
		}
		b, err := fraction.Parse(text)
		if err != nil || !same(a, b) {
			t.Fatalf("Parse(%.80s): %v, %v", text, b, err)
		}
	}
}

// P2.5: texts are accepted up to MaxText bytes, and refused above before their form is looked at.
func TestLongTexts(t *testing.T) {
	half := strings.Repeat("3", api.MaxText/2)
	for _, s := range []string{strings.Repeat("9", api.MaxText), "-1/1" + strings.Repeat("0", api.MaxText-4), half + "/1" + strings.Repeat("0", api.MaxText/2-2)} {
		a, err := fraction.Parse(s)
		if err != nil || !fraction.Valid(a) || fraction.Text(a) != s {
			t.Errorf("Parse(%.20s...): %v", s, err)
		}
	}
	for _, s := range []string{strings.Repeat("9", api.MaxText+1), "-1/1" + strings.Repeat("0", api.MaxText-3), strings.Repeat("x", api.MaxText+1), "0." + strings.Repeat("0", api.MaxText)} {
		if a, err := fraction.Parse(s); err != api.ErrLarge || !isZero(a) {
			t.Errorf("Parse(%.20s...): %v", s, err)
		}
	}
	if a, err := fraction.Parse(half[1:] + "/" + half[1:]); err != api.ErrForm || !isZero(a) {
		t.Errorf("a long text that is not in lowest terms: %v", err)
	}
}

// P2.1: Parse reads decimal numbers of at most 64 bytes.
func TestDecimals(t *testing.T) {
	for s, want := range map[string]string{
		"0.0": "0", "-0.0": "0", "0.00": "0", "-0.25": "-1/4", "0.250": "1/4", "12.5": "25/2", "7.0": "7", "-10.10": "-101/10",
		"0.000000000000000000001":            "1/1000000000000000000000",
		"4294967296.5":                       "8589934593/2",
		"18446744073709551616.0":             "18446744073709551616",
		"9." + strings.Repeat("0", 62):       "9",
		"-9." + strings.Repeat("0", 61):      "-9",
		"1" + strings.Repeat("0", 60) + ".5": "2" + strings.Repeat("0", 59) + "1/2",
	} {
		if a, err := fraction.Parse(s); err != nil || toBig(t, a).RatString() != want {
			t.Errorf("Parse(%s): %v, %v, not %s", s, a, err, want)
		}
	}
	r := rand.New(rand.NewSource(10))
	for range 3000 {
		s := drawDecimal(r)
		want, ok := new(big.Rat).SetString(s)
		if !ok {
			t.Fatalf("no decimal number: %s", s)
		}
		a, err := fraction.Parse(s)
		if err != nil {
			t.Fatalf("Parse(%s): %v", s, err)
		}
		expect(t, "Parse("+s+")", a, want)
	}
}

// drawDecimal returns a decimal number of at most 64 bytes.
func drawDecimal(r *rand.Rand) string {
	front := drawSize(r, 1+r.Intn(60)).String()
	back := make([]byte, 1+r.Intn(30))
	for i := range back {
		back[i] = '0' + byte(r.Intn(10))
	}
	if r.Intn(2) == 0 {
		front = "-" + front
	}
	return front + "." + string(back)
}

// P2.5: nothing else is accepted.
func TestParseErrors(t *testing.T) {
	for _, s := range []string{
		"", "-", "/", ".", "-.", "-/", "-0", "+1", "00", "01", "-01", " 1", "1 ", "1\n", "1\x00", "x", "1e3", "0x1", "1_0", "--1", "\xd9\xa1",
		"2/4", "-6/3", "3/3", "0/1", "0/5", "0/0", "-0/5", "5/1", "-5/1", "1/0", "1/-2", "-1/-2", "1/+2", "01/2", "1/02", "1/2/3", "1/", "/2", "1//2",
		"1 /2", "1/ 2", "1/2 ", "18446744073709551616/4294967296", "1/2-", "0/4294967296",
		".5", "-.5", "5.", "-5.", "01.5", "-01.5", "00.5", "1.-5", "1.+5", "+1.5", "--1.5", "-+1.5", "1.5.2", "1..5", "1.5/2", "1/2.5", "1.5e3", "1. 5", " 1.5", "1.5 ",
		"9." + strings.Repeat("0", 63), "-9." + strings.Repeat("0", 62), strings.Repeat("1", 63) + ".5",
	} {
		if a, err := fraction.Parse(s); err != api.ErrForm || !isZero(a) {
			t.Errorf("Parse(%q): %v, %v", s, a, err)
		}
	}
}
