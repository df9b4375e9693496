package body

import (
	"math"

	"webfinger/api"
	"webfinger/ascii"
	"webfinger/number"
)

// Chunked returns the bytes of all chunks of a body in chunked form.
func Chunked(s string, most int) (string, api.Errno) {
	var out []byte
	at, total := 0, uint64(0)
chunks:
	for {
		size, to, err := sizeLine(s, at)
		total = number.Add(total, size)
		switch {
		case err != api.OK:
			return "", err
		case most < 0 || total > uint64(most):
			return "", api.ErrTooLarge
		case size == 0:
			at = to
			break chunks
		case size > uint64(len(s)-to):
			return "", api.ErrTruncated
		}
		end := to + int(size)
		if err := checkLineEnd(s, end); err != api.OK {
			return "", err
		}
		out = append(out, s[to:end]...)
		at = end + len(lineEnd)
	}
	if err := checkTrailer(s, at); err != api.OK {
		return "", err
	}
	return string(out), api.OK
}

// sizeLine returns the size of the chunk that begins at an offset, and the offset after its line.
func sizeLine(s string, at int) (uint64, int, api.Errno) {
	to := at
	for to < len(s) && ascii.IsHex(s[to]) {
		to++
	}
	digits := s[at:to]
	if digits == "" && to < len(s) {
		return 0, 0, api.ErrFraming
	}
	if to < len(s) && s[to] == ';' {
		to = lineTextEnd(s, to)
	}
	if err := checkLineEnd(s, to); err != api.OK {
		return 0, 0, err
	}
	size, err := number.Hex(digits, math.MaxUint64)
	if err != api.OK {
		// There are digits, so the number can only be too great.
		size = math.MaxUint64
	}
	return size, to + len(lineEnd), api.OK
}

// checkTrailer looks for the empty line that ends a body.
func checkTrailer(s string, at int) api.Errno {
	for {
		end := lineTextEnd(s, at)
		if err := checkLineEnd(s, end); err != api.OK || end == at {
			return err
		}
		at = end + len(lineEnd)
	}
}

// lineTextEnd returns the offset of the first CR or LF from an offset on, the length if there is none.
func lineTextEnd(s string, at int) int {
	for at < len(s) && s[at] != '\r' && s[at] != '\n' {
		at++
	}
	return at
}

// checkLineEnd reports whether there is a CR LF at an offset.
func checkLineEnd(s string, at int) api.Errno {
	for i := range len(lineEnd) {
		if at+i >= len(s) {
			return api.ErrTruncated
		}
		if s[at+i] != lineEnd[i] {
			return api.ErrFraming
		}
	}
	return api.OK
}
