package percent

import (
	"net/url"
	"strings"
	"testing"

	"webfinger/api"
	"webfinger/ascii"
	"webfinger/sample"
)

const most = 4 * api.MaxText

var pieces = []string{"a", "Z", "~", "/", " ", "%", "%4", "%41", "%7e", "%2f", "%2F", "%25", "%fF", "%zz", "%a", "\xc3"}

func TestP3_1Decode(t *testing.T) {
	for s, want := range map[string]string{"": "", "abc": "abc", "%41%7e%2F": "A~/", "a b\xff": "a b\xff", "%00%fF": "\x00\xff", "%2541": "%41", "+": "+"} {
		if got, err := Decode(s); got != want || err != api.OK {
			t.Errorf("Decode(%q) = %q, %d", s, got, err)
		}
	}
	for _, s := range []string{"%", "a%", "%4", "%g0", "%0g", "%%41", "% 1", "%4\x00", "%-1"} {
		if got, err := Decode(s); got != "" || err != api.ErrPercent {
			t.Errorf("Decode(%q) = %q, %d", s, got, err)
		}
	}
	for s := range sample.Texts(4, pieces...) {
		want, wrong := url.PathUnescape(s)
		if wrong != nil {
			want = ""
		}
		if got, err := Decode(s); got != want || (err == api.ErrPercent) != (wrong != nil) {
			t.Errorf("Decode(%q) = %q, %d", s, got, err)
		}
	}
}

func TestP3_1DecodeLimit(t *testing.T) {
	if _, err := Decode(strings.Repeat("a", most)); err != api.OK {
		t.Errorf("at the limit: %d", err)
	}
	if got, err := Decode(strings.Repeat("%", most+1)); got != "" || err != api.ErrLimit {
		t.Errorf("above the limit: %q, %d", got, err)
	}
}

func TestP3_2Encode(t *testing.T) {
	for _, c := range []struct{ s, keep, want string }{
		{"", "", ""}, {"aZ09-._~", "", "aZ09-._~"}, {"a b/ä", "/", "a%20b/%C3%A4"}, {"a b/ä", "", "a%20b%2F%C3%A4"},
		{"100%", "%", "100%25"}, {"%41", "%", "%2541"}, {"\x00\xff", "\xff", "%00\xff"}, {"!$", "$", "%21$"}, {"acct:a@b", "", "acct%3Aa%40b"},
	} {
		if got := Encode(c.s, c.keep); got != c.want {
			t.Errorf("Encode(%q, %q) = %q", c.s, c.keep, got)
		}
	}
	for _, c := range sample.Bytes() {
		if got := Encode(c, "%/"); (got == c) != (ascii.IsUnreserved(c[0]) || c == "/") {
			t.Errorf("Encode(%q) = %q", c, got)
		}
	}
}

func TestP3_3Normalize(t *testing.T) {
	for _, c := range []struct{ s, also, want string }{
		{"", "", ""}, {"%7e%2f%41", "", "~%2FA"}, {"a/b", "/", "a/b"}, {"%2f", "/", "%2F"}, {"%61%5a%30%2d%2e%5f%7E", "", "aZ0-._~"},
		{"%c3%A4", "", "%C3%A4"}, {"%25", "%", "%25"}, {"%2541", "", "%2541"}, {"\xff", "\xff", "\xff"},
	} {
		if got, err := Normalize(c.s, c.also); got != c.want || err != api.OK {
			t.Errorf("Normalize(%q, %q) = %q, %d", c.s, c.also, got, err)
		}
	}
	for _, c := range []struct {
		s, also string
		err     api.Errno
	}{
		{"/", "", api.ErrChar}, {"a b", "/", api.ErrChar}, {"\xff", "", api.ErrChar}, {"%", "%", api.ErrPercent}, {"%4", "", api.ErrPercent}, {"%%41", "%", api.ErrPercent},
		{"/%", "", api.ErrChar}, {"%/", "", api.ErrPercent}, {"%41%x", "", api.ErrPercent}, {"a%20 %", "", api.ErrChar},
		{strings.Repeat("/", most+1), "", api.ErrLimit}, {strings.Repeat("%", most+1), "", api.ErrLimit},
	} {
		if got, err := Normalize(c.s, c.also); got != "" || err != c.err {
			t.Errorf("Normalize(%q, %q) = %q, %d", c.s, c.also, got, err)
		}
	}
	if _, err := Normalize(strings.Repeat("/", most), "/"); err != api.OK {
		t.Errorf("at the limit: %d", err)
	}
}

func TestConsequences(t *testing.T) {
	for s := range sample.Texts(4, pieces...) {
		encoded := Encode(s, "/")
		if got, err := Decode(encoded); got != s || err != api.OK {
			t.Errorf("Decode(Encode(%q)) = %q, %d", s, got, err)
		}
		encoded = Encode(s, "")
		if got, err := Normalize(encoded, ""); got != encoded || err != api.OK {
			t.Errorf("Normalize(Encode(%q)) = %q, %d", s, got, err)
		}
		once, err := Normalize(s, "/ ")
		if err != api.OK {
			continue
		}
		if twice, err := Normalize(once, "/ "); twice != once || err != api.OK {
			t.Errorf("Normalize twice of %q = %q, %d", s, twice, err)
		}
		before, _ := Decode(s)
		if after, _ := Decode(once); after != before {
			t.Errorf("Normalize(%q) = %q stands for something else", s, once)
		}
	}
}
