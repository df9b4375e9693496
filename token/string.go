package token

import (
	"webfinger/api"
	"webfinger/number"
	"webfinger/utf8text"
)

const (
	// unitSize is the number of bytes of an escape sequence for a UTF-16 unit.
	unitSize  = 6
	mostUnit  = 0xFFFF
	firstHigh = 0xD800
	firstLow  = 0xDC00
	lastLow   = 0xDFFF
	firstPair = 0x10000
)

// stringReader reads what is between the quotes of a JSON string.
type stringReader struct {
	s    string
	at   int
	text []byte
}

// readString returns the string that begins with the quote at an offset, and the offset after it.
func readString(s string, at int) (string, int, api.Errno) {
	r := stringReader{s: s, at: at + 1}
	plain, escape := r.plain, r.escape
	for r.at < len(s) && s[r.at] != '"' {
		next := plain
		if s[r.at] == '\\' {
			next = escape
		}
		if err := next(); err != api.OK {
			return "", 0, err
		}
	}
	if r.at == len(s) {
		return "", 0, api.ErrToken
	}
	return string(r.text), r.at + 1, api.OK
}

// plain reads a code point that stands for itself.
func (r *stringReader) plain() api.Errno {
	if r.s[r.at] < ' ' {
		return api.ErrToken
	}
	_, to, err := utf8text.Decode(r.s, r.at)
	if err != api.OK {
		return err
	}
	r.text = append(r.text, r.s[r.at:to]...)
	r.at = to
	return api.OK
}

// escape reads an escape sequence, or two of them that stand for one code point.
func (r *stringReader) escape() api.Errno {
	rest := r.s[r.at:]
	if c := shortEscape(rest); c != 0 {
		r.text = append(r.text, c)
		r.at += 2
		return api.OK
	}
	unit, ok := unitAt(rest)
	if !ok {
		return api.ErrToken
	}
	size := unitSize
	if unit >= firstHigh && unit < firstLow {
		if low, ok := unitAt(rest[unitSize:]); ok && low >= firstLow && low <= lastLow {
			unit = firstPair + (unit-firstHigh)*0x400 + (low - firstLow)
			size += unitSize
		}
	}
	text, err := utf8text.Encode(unit)
	if err != api.OK {
		// A unit that is half of a pair is no code point.
		return api.ErrUTF8
	}
	r.text = append(r.text, text...)
	r.at += size
	return api.OK
}

// shortEscape returns the byte for which a backslash and the byte after it stand, 0 if they stand for none.
func shortEscape(s string) byte {
	if len(s) < 2 {
		return 0
	}
	switch s[1] {
	case '"', '\\', '/':
		return s[1]
	case 'b':
		return '\b'
	case 'f':
		return '\f'
	case 'n':
		return '\n'
	case 'r':
		return '\r'
	case 't':
		return '\t'
	}
	return 0
}

// unitAt returns the number of the UTF-16 unit for which the escape sequence at the beginning of s stands.
func unitAt(s string) (int, bool) {
	if len(s) < unitSize || s[0] != '\\' || s[1] != 'u' {
		return 0, false
	}
	n, err := number.Hex(s[2:unitSize], mostUnit)
	return int(n), err == api.OK
}
