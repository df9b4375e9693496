package utf8text

import (
	"math"
	"testing"
	"unicode/utf8"

	"webfinger/api"
	"webfinger/sample"
)

func TestP2_1DecodeEveryCodePoint(t *testing.T) {
	for r := range 0x110000 {
		text, err := Encode(r)
		if r >= 0xD800 && r <= 0xDFFF {
			if err != api.ErrRange || text != "" {
				t.Fatalf("Encode(%x) = %q, %d", r, text, err)
			}
			continue
		}
		if err != api.OK || text != string(rune(r)) {
			t.Fatalf("Encode(%x) = %q, %d", r, text, err)
		}
		got, to, err := Decode("ab"+text+"c", 2)
		if got != r || to != 2+len(text) || err != api.OK {
			t.Fatalf("Decode of %x = %x, %d, %d", r, got, to, err)
		}
	}
}

func TestP2_1DecodeErrors(t *testing.T) {
	for _, c := range []struct {
		s   string
		at  int
		err api.Errno
	}{
		{"", 0, api.ErrRange}, {"a", 1, api.ErrRange}, {"a", -1, api.ErrRange}, {"\xff", 7, api.ErrRange},
		{"a", math.MinInt, api.ErrRange}, {"a", math.MaxInt, api.ErrRange},
		{"\x80", 0, api.ErrUTF8}, {"\xbf", 0, api.ErrUTF8}, {"\xff", 0, api.ErrUTF8}, {"\xf8\x88\x80\x80\x80", 0, api.ErrUTF8},
		{"\xc3", 0, api.ErrUTF8}, {"\xe2\x82", 0, api.ErrUTF8}, {"\xf0\x9f\x98", 0, api.ErrUTF8},
		{"\xc3a", 0, api.ErrUTF8}, {"\xe2\x82a", 0, api.ErrUTF8}, {"\xe2a\x82", 0, api.ErrUTF8}, {"\xc3\xc3", 0, api.ErrUTF8},
		{"\xc0\x80", 0, api.ErrUTF8}, {"\xc1\xbf", 0, api.ErrUTF8}, {"\xe0\x9f\xbf", 0, api.ErrUTF8}, {"\xf0\x8f\xbf\xbf", 0, api.ErrUTF8},
		{"\xed\xa0\x80", 0, api.ErrUTF8}, {"\xed\xbf\xbf", 0, api.ErrUTF8}, {"\xf4\x90\x80\x80", 0, api.ErrUTF8},
		{"\xe2\x82\xac", 1, api.ErrUTF8},
	} {
		if r, to, err := Decode(c.s, c.at); r != 0 || to != 0 || err != c.err {
			t.Errorf("Decode(%q, %d) = %d, %d, %d", c.s, c.at, r, to, err)
		}
	}
}

func TestP2_1DecodeOfEveryPairOfBytes(t *testing.T) {
	for i := range 1 << 16 {
		s := string([]byte{byte(i >> 8), byte(i)})
		want, size := utf8.DecodeRuneInString(s)
		r, to, err := Decode(s, 0)
		if want == utf8.RuneError {
			want, size = 0, 0
		}
		if r != int(want) || to != size || (err == api.OK) != (size > 0) {
			t.Errorf("Decode(%q) = %x, %d, %d", s, r, to, err)
		}
	}
}

func TestP2_1DecodeAgreesWithGo(t *testing.T) {
	for s := range sample.Texts(4, "\x00", "\x7f", "\x80", "\x8f", "\x90", "\x9f", "\xa0", "\xbf", "\xc1", "\xc2", "\xdf", "\xe0", "\xed", "\xef", "\xf0", "\xf4", "\xf5", "\xff") {
		if s == "" {
			continue
		}
		want, size := utf8.DecodeRuneInString(s)
		r, to, err := Decode(s, 0)
		if want == utf8.RuneError && size == 1 {
			if err != api.ErrUTF8 {
				t.Errorf("Decode(%q) = %x, %d, %d", s, r, to, err)
			}
		} else if r != int(want) || to != size || err != api.OK {
			t.Errorf("Decode(%q) = %x, %d, %d", s, r, to, err)
		}
	}
}

func TestP2_2Encode(t *testing.T) {
	for r, want := range map[int]string{0: "\x00", 0x7F: "\x7f", 0x80: "\xc2\x80", 0x7FF: "\xdf\xbf", 0x800: "\xe0\xa0\x80", 0x20AC: "\xe2\x82\xac", 0xFFFF: "\xef\xbf\xbf", 0x10000: "\xf0\x90\x80\x80", 0x10FFFF: "\xf4\x8f\xbf\xbf"} {
		if got, err := Encode(r); got != want || err != api.OK {
			t.Errorf("Encode(%x) = %q, %d", r, got, err)
		}
	}
	for _, r := range []int{-1, 0x110000, 0xD800, 0xDFFF, math.MinInt, math.MaxInt, 1 << 32} {
		if got, err := Encode(r); got != "" || err != api.ErrRange {
			t.Errorf("Encode(%x) = %q, %d", r, got, err)
		}
	}
}

func TestP2_3ValidAndCount(t *testing.T) {
	for s, want := range map[string]int{"": 0, "abc": 3, "aä€😀": 4, "\xff": -1, "a\xc3": -1, "€\x82": -1, "\xc0\x80": -1} {
		if Count(s) != want || Valid(s) != (want >= 0) {
			t.Errorf("Count(%q) = %d", s, Count(s))
		}
	}
	for s := range sample.Mixed(3000, 6, "a", "\xc3\xa4", "\xc3", "\xe2\x82\xac", "\x82", "\xf0\x9f\x98\x80", "\xf0\x9f") {
		if Valid(s) != utf8.ValidString(s) {
			t.Errorf("Valid(%q) = %v", s, Valid(s))
		}
		if Valid(s) && Count(s) != utf8.RuneCountInString(s) {
			t.Errorf("Count(%q) = %d", s, Count(s))
		}
	}
}
