package integer

import (
	"slices"
	"strconv"
)

// Decimal digits are treated nine at a time: a word can hold no more.
const (
	groupDigits = 9
	groupUnit   = 1000000000
)

// appendDigits appends the decimal digits of a to text.
func appendDigits(text []byte, a []uint32) []byte {
	var groups []uint32
	rest := slices.Clone(a)
	for len(rest) > 1 {
		groups = append(groups, divideWord(rest, groupUnit))
		rest = trim(rest)
	}
	text = strconv.AppendUint(text, word(rest, 0), 10)
	for i := len(groups) - 1; i >= 0; i-- {
		text = appendGroup(text, groups[i])
	}
	return text
}

// appendGroup appends the nine digits of a group, zeros in front included.
func appendGroup(text []byte, group uint32) []byte {
	for unit := uint32(groupUnit / 10); unit > 0; unit /= 10 {
		text = append(text, '0'+byte(group/unit%10))
	}
	return text
}

// plain reports whether s consists of digits, without a zero in front but for a single one.
func plain(s string) bool {
	if s == "" || s[0] == '0' && len(s) > 1 {
		return false
	}
	for i := range len(s) {
		if s[i] < '0' || s[i] > '9' {
			return false
		}
	}
	return true
}

// readDigits returns the number of decimal digits.
func readDigits(s string) []uint32 {
	a := make([]uint32, 0, len(s)/groupDigits+1)
	for len(s) > 0 {
		n := (len(s)-1)%groupDigits + 1
		a = appendTimes(a, s[:n])
		s = s[n:]
	}
	return a
}

// appendTimes makes room for at most nine further digits in a and adds them.
func appendTimes(a []uint32, digits string) []uint32 {
	group, unit := uint64(0), uint64(1)
	for i := range len(digits) {
		group = group*10 + uint64(digits[i]-'0')
		unit *= 10
	}
	carry := group
	for i, x := range a {
		carry += uint64(x) * unit
		a[i] = uint32(carry)
		carry >>= wordBits
	}
	if carry > 0 {
		a = append(a, uint32(carry))
	}
	return a
}
