// Package ascii is layer 1, character classes: see shared/doc/01-ascii.md.
package ascii

import "strings"

// IsAlpha reports whether c is a letter.
func IsAlpha(c byte) bool { return c >= 'a' && c <= 'z' || isCapital(c) }

// IsDigit reports whether c is a decimal digit.
func IsDigit(c byte) bool { return c >= '0' && c <= '9' }

// IsHex reports whether c is a hexadecimal digit.
func IsHex(c byte) bool {
	return IsDigit(c) || c >= 'a' && c <= 'f' || c >= 'A' && c <= 'F'
}

// IsUnreserved reports whether c never needs an escape in a URI.
func IsUnreserved(c byte) bool { return isLetterOrDigit(c) || isOneOf(c, "-._~") }

// IsSubDelim reports whether c is a sub-delimiter of URIs.
func IsSubDelim(c byte) bool { return isOneOf(c, "!$&'()*+,;=") }

// IsPchar reports whether c may stand in a path segment of a URI.
func IsPchar(c byte) bool { return IsUnreserved(c) || IsSubDelim(c) || isOneOf(c, ":@") }

// IsToken reports whether c may stand in a token of a header.
func IsToken(c byte) bool { return isLetterOrDigit(c) || isOneOf(c, "!#$%&'*+-.^_`|~") }

// Lower returns s with small letters in the place of capital ones.
func Lower(s string) string {
	low := make([]byte, len(s))
	for i := range len(s) {
		low[i] = lower(s[i])
	}
	return string(low)
}

// Equal reports whether a and b differ at most in the case of letters.
func Equal(a, b string) bool {
	if len(a) != len(b) {
		return false
	}
	for i := range len(a) {
		if lower(a[i]) != lower(b[i]) {
			return false
		}
	}
	return true
}

// Trim returns s without the spaces and tabs at its ends.
func Trim(s string) string {
	from, to := len(s), 0
	for i := range len(s) {
		if s[i] != ' ' && s[i] != '\t' {
			from, to = min(from, i), i+1
		}
	}
	if from >= to {
		return ""
	}
	return s[from:to]
}

// Digits reports whether s has one or more bytes, all of them digits.
func Digits(s string) bool {
	for i := range len(s) {
		if !IsDigit(s[i]) {
			return false
		}
	}
	return s != ""
}

func isCapital(c byte) bool { return c >= 'A' && c <= 'Z' }

func isLetterOrDigit(c byte) bool { return IsAlpha(c) || IsDigit(c) }

func isOneOf(c byte, set string) bool { return strings.IndexByte(set, c) >= 0 }

func lower(c byte) byte {
	if isCapital(c) {
		return c + ('a' - 'A')
	}
	return c
}
