package ascii

import (
	"strings"
	"testing"

	"webfinger/sample"
)

const (
	letters = "ABCDEFGHIJKLMNOPQRSTUVWXYZabcdefghijklmnopqrstuvwxyz"
	digits  = "0123456789"
)

func TestP1_1Classes(t *testing.T) {
	for name, c := range map[string]struct {
		is  func(byte) bool
		set string
	}{
		"IsAlpha":      {IsAlpha, letters},
		"IsDigit":      {IsDigit, digits},
		"IsHex":        {IsHex, digits + "ABCDEFabcdef"},
		"IsUnreserved": {IsUnreserved, letters + digits + "-._~"},
		"IsSubDelim":   {IsSubDelim, "!$&'()*+,;="},
		"IsPchar":      {IsPchar, letters + digits + "-._~" + "!$&'()*+,;=" + ":@"},
		"IsToken":      {IsToken, letters + digits + "!#$%&'*+-.^_`|~"},
	} {
		for i := range 256 {
			if want := strings.IndexByte(c.set, byte(i)) >= 0; c.is(byte(i)) != want {
				t.Errorf("%s(%q) = %v", name, rune(i), !want)
			}
		}
	}
}

func TestP1_2Lower(t *testing.T) {
	for i := range 256 {
		c := string([]byte{byte(i)})
		want := c
		if i >= 'A' && i <= 'Z' {
			want = string([]byte{byte(i + 32)})
		}
		if got := Lower("x" + c + "Y"); got != "x"+want+"y" {
			t.Errorf("Lower(x%qY) = %q", c, got)
		}
	}
	if got := Lower("AbC-Z"); got != "abc-z" {
		t.Errorf("Lower = %q", got)
	}
}

func TestP1_2Equal(t *testing.T) {
	for a := range sample.Texts(3, "a", "A", "[", "{", "\xc4") {
		for b := range sample.Texts(2, "a", "A", "[", "{", "\xe4") {
			if got, want := Equal(a, b), Lower(a) == Lower(b); got != want {
				t.Errorf("Equal(%q, %q) = %v", a, b, got)
			}
		}
	}
	if !Equal("", "") || !Equal("HoSt", "hOsT") || Equal("ab", "abc") || Equal("@", "`") {
		t.Error("Equal")
	}
}

func TestP1_3Trim(t *testing.T) {
	for s := range sample.Texts(6, " ", "\t", "a", "\n") {
		got, want := Trim(s), strings.Trim(s, " \t")
		if got != want || Trim(got) != got {
			t.Errorf("Trim(%q) = %q", s, got)
		}
	}
	if got := Trim(" \ta b "); got != "a b" {
		t.Errorf("Trim = %q", got)
	}
}

func TestP1_3Digits(t *testing.T) {
	for s, want := range map[string]bool{"": false, "0": true, "0123456789": true, "x1": false, "1x": false, "/": false, ":": false, "+1": false, "\xb2": false} {
		if Digits(s) != want {
			t.Errorf("Digits(%q) = %v", s, !want)
		}
	}
}

func TestConsequences(t *testing.T) {
	for _, c := range sample.Bytes() {
		if IsUnreserved(c[0]) && !IsPchar(c[0]) {
			t.Errorf("%q is unreserved, but no pchar", c)
		}
	}
	for s := range sample.Mixed(500, 8, sample.Bytes()...) {
		low := Lower(s)
		if len(low) != len(s) || Lower(low) != low || !Equal(s, low) {
			t.Errorf("Lower(%q) = %q", s, low)
		}
	}
}
