// Package fieldtext reads the parts of header values that several layers have in common.
package fieldtext

// IsByte reports whether c may stand in a header value.
func IsByte(c byte) bool { return c >= ' ' && c != 127 || c == '\t' }

// IsText reports whether every byte of s may stand in a header value.
func IsText(s string) bool {
	for i := range len(s) {
		if !IsByte(s[i]) {
			return false
		}
	}
	return true
}
