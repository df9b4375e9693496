package token

import (
	"strconv"
	"strings"

	"webfinger/api"
	"webfinger/ascii"
	"webfinger/number"
)

// farExponent is out of range, whatever a text that fits into memory adds to it or takes away from it.
const farExponent = 1 << 40

// Number returns the canonical form of a number.
func Number(s string) (string, api.Errno) {
	if s == "" || numberEnd(s, 0) != len(s) {
		return "", api.ErrToken
	}
	s, isNegative := strings.CutPrefix(s, "-")
	mantissa, exponent := cutExponent(s)
	whole, fraction, _ := strings.Cut(mantissa, ".")
	digits := strings.TrimLeft(whole+fraction, "0")
	if digits == "" {
		return "0", api.OK
	}
	m := strings.TrimRight(digits, "0")
	x := exponent - int64(len(fraction)) + int64(len(digits)-len(m))
	if len(m) > api.MaxDigits || x < -api.MaxExponent || x > api.MaxExponent {
		return "", api.ErrNumber
	}
	if isNegative {
		m = "-" + m
	}
	if x != 0 {
		m += "e" + strconv.FormatInt(x, 10)
	}
	return m, api.OK
}

// cutExponent returns what precedes the e of a number, and its exponent.
func cutExponent(s string) (string, int64) {
	e := strings.IndexAny(s, "eE")
	if e < 0 {
		return s, 0
	}
	digits, isNegative := strings.CutPrefix(s[e+1:], "-")
	n, err := number.Parse(strings.TrimPrefix(digits, "+"), farExponent)
	exponent := int64(n)
	if err != api.OK {
		exponent = farExponent
	}
	if isNegative {
		exponent = -exponent
	}
	return s[:e], exponent
}

// numberEnd returns the offset after the longest number that begins at an offset; the offset itself if there is none.
func numberEnd(s string, at int) int {
	first := at
	if first < len(s) && s[first] == '-' {
		first++
	}
	to := digitsEnd(s, first)
	if to == first {
		return at
	}
	if s[first] == '0' {
		to = first + 1
	}
	if to < len(s) && s[to] == '.' {
		if end := digitsEnd(s, to+1); end > to+1 {
			to = end
		}
	}
	if to < len(s) && (s[to] == 'e' || s[to] == 'E') {
		digits := to + 1
		if digits < len(s) && (s[digits] == '+' || s[digits] == '-') {
			digits++
		}
		if end := digitsEnd(s, digits); end > digits {
			to = end
		}
	}
	return to
}

// digitsEnd returns the offset after the digits that begin at an offset.
func digitsEnd(s string, at int) int {
	for at < len(s) && ascii.IsDigit(s[at]) {
		at++
	}
	return at
}
