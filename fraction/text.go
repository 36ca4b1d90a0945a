package fraction

import (
	"strings"

	"linkwork/api"
	"linkwork/integer"
)

// maxDecimal is the greatest length of a decimal number in bytes.
const maxDecimal = 64

// Text returns the decimal digits of the numerator, and of the denominator unless it is 1.
func Text(a api.Rat) string {
	n, d := pair(known(a))
	if isOne(d.Mag) {
		return integer.Text(n)
	}
	return integer.Text(n) + "/" + integer.Text(d)
}

// Parse returns the fraction whose Text is s, or the number of a decimal number.
func Parse(s string) (api.Rat, error) {
	if len(s) > api.MaxText {
		return api.Rat{}, api.ErrLarge
	}
	if strings.Contains(s, ".") {
		return parseDecimal(s)
	}
	top, bottom, divided := strings.Cut(s, "/")
	n, err := integer.Parse(top)
	if err != nil {
		return api.Rat{}, api.ErrForm
	}
	if !divided {
		return lowest(n, integer.Of(1)), nil
	}
	d, err := integer.Parse(bottom)
	if err != nil {
		return api.Rat{}, api.ErrForm
	}
	a := api.Rat{Neg: n.Neg, Num: n.Mag, Den: d.Mag}
	if integer.Cmp(d, integer.Of(1)) <= 0 || !Valid(a) {
		return api.Rat{}, api.ErrForm
	}
	return a, nil
}

// parseDecimal returns the number of a decimal number.
func parseDecimal(s string) (api.Rat, error) {
	size, neg := strings.CutPrefix(s, "-")
	front, back, _ := strings.Cut(size, ".")
	if len(s) > maxDecimal || !isDigits(front) || !isDigits(back) || front[0] == '0' && front != "0" {
		return api.Rat{}, api.ErrForm
	}
	a := reduce(number(front+back), raise(integer.Of(10), len(back)))
	if neg {
		a = negative(a)
	}
	return a, nil
}

// isDigits reports whether s consists of digits, at least one.
func isDigits(s string) bool {
	for i := range len(s) {
		if s[i] < '0' || s[i] > '9' {
			return false
		}
	}
	return s != ""
}

// number returns the number of digits, zeros in front included.
func number(digits string) api.Whole {
	n, ten := api.Whole{}, integer.Of(10)
	for i := range len(digits) {
		n = integer.Add(integer.Mul(n, ten), integer.Of(int(digits[i]-'0')))
	}
	return n
}
