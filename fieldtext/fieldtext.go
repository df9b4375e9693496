// Package fieldtext reads and writes the parts of header values that several layers have in common.
package fieldtext

import "webfinger/ascii"

// IsByte reports whether c may stand in a header value.
func IsByte(c byte) bool { return c >= ' ' && c != 127 || c == '\t' }

// IsText reports whether every byte of s may stand in a header value.
func IsText(s string) bool {
	for i := range len(s) {
		if !IsByte(s[i]) {
			return false
		}
	}
	return true
}

// IsToken reports whether s is a token.
func IsToken(s string) bool { return s != "" && TokenEnd(s, 0) == len(s) }

// TokenEnd returns the offset after the token bytes from an offset on.
func TokenEnd(s string, at int) int {
	for at < len(s) && ascii.IsToken(s[at]) {
		at++
	}
	return at
}

// BlanksEnd returns the offset after the spaces and tabs from an offset on.
func BlanksEnd(s string, at int) int {
	for at < len(s) && (s[at] == ' ' || s[at] == '\t') {
		at++
	}
	return at
}

// Word returns the token at an offset, or what the quoted string there stands for, and the offset after it.
func Word(s string, at int) (string, int, bool) {
	if at < len(s) && s[at] == '"' {
		return quoted(s, at)
	}
	to := TokenEnd(s, at)
	return s[at:to], to, to > at
}

// Write returns s as a token if it is one, and as a quoted string otherwise.
func Write(s string) string {
	if IsToken(s) {
		return s
	}
	text := []byte{'"'}
	for i := range len(s) {
		if s[i] == '"' || s[i] == '\\' {
			text = append(text, '\\')
		}
		text = append(text, s[i])
	}
	return string(append(text, '"'))
}

// quoted returns what the quoted string at an offset stands for, and the offset after it; if it is wrong, the offset at which it is.
func quoted(s string, at int) (string, int, bool) {
	var text []byte
	for i := at + 1; i < len(s); i++ {
		if s[i] == '"' {
			return string(text), i + 1, true
		}
		if s[i] == '\\' {
			i++
		}
		if i == len(s) || !IsByte(s[i]) {
			return "", i, false
		}
		text = append(text, s[i])
	}
	return "", len(s), false
}
