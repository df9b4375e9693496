package head

import (
	"math"
	"reflect"
	"regexp"
	"slices"
	"strings"
	"testing"

	"webfinger/api"
	"webfinger/sample"
)

const status = "HTTP/1.1 200 OK\r\n"

func TestP18_1Parse(t *testing.T) {
	for s, want := range map[string]api.Head{
		"HTTP/1.0 100 \r\n\r\n":                          {Status: 100},
		"HTTP/1.1 599 A \t b~\xff\r\n\r\n":               {Minor: 1, Status: 599},
		"HTTP/1.1 404  \r\n\r\n":                         {Minor: 1, Status: 404},
		status + "A:  b \r\n\r\n":                        {Minor: 1, Status: 200, Fields: []api.Field{{Name: "a", Value: "b"}}},
		status + "X-Y:\r\nx-y:\t \r\nZ!#$:a:b\r\n\r\n":   {Minor: 1, Status: 200, Fields: []api.Field{{Name: "x-y"}, {Name: "x-y"}, {Name: "z!#$", Value: "a:b"}}},
		status + "N: \xc3\xa4 \"x\ty\" \x80\r\n\r\n":     {Minor: 1, Status: 200, Fields: []api.Field{{Name: "n", Value: "\xc3\xa4 \"x\ty\" \x80"}}},
		status + strings.Repeat("a:b\r\n", 64) + "\r\n":  {Minor: 1, Status: 200, Fields: slices.Repeat([]api.Field{{Name: "a", Value: "b"}}, 64)},
		"HTTP/1.1 302 -\r\nLocation: https://a/\r\n\r\n": {Minor: 1, Status: 302, Fields: []api.Field{{Name: "location", Value: "https://a/"}}},
	} {
		for _, rest := range []string{"", "xyz", "\r\n\r\n", strings.Repeat("x", api.MaxHead)} {
			if got, at, err := Parse(s + rest); !reflect.DeepEqual(got, want) || at != len(s) || err != api.OK {
				t.Errorf("Parse(%.80q) = %.80v, %d, %d", s, got, at, err)
			}
		}
	}
}

func TestP18_1ParseErrors(t *testing.T) {
	for s, want := range map[string]api.Errno{
		"": api.ErrTruncated, "HTTP/1.1 200 OK": api.ErrTruncated, status: api.ErrTruncated, status + "a: b\r\n": api.ErrTruncated, status + "a: b\r\n\r": api.ErrTruncated, "\x00": api.ErrTruncated, status + "\n\n": api.ErrTruncated, "\r\n": api.ErrTruncated, strings.Repeat("x", api.MaxHead): api.ErrTruncated,
		strings.Repeat("x", api.MaxHead+1): api.ErrTooLarge,
		"\r\n\r\n":                         api.ErrHead, "\r\nHTTP/1.1 200 OK\r\n\r\n": api.ErrHead, "HTTP/1.2 200 OK\r\n\r\n": api.ErrHead, "HTTP/2 200 OK\r\n\r\n": api.ErrHead, "http/1.1 200 OK\r\n\r\n": api.ErrHead, "HTTP/1.1 200\r\n\r\n": api.ErrHead, "HTTP/1.1 099 x\r\n\r\n": api.ErrHead, "HTTP/1.1 600 x\r\n\r\n": api.ErrHead, "HTTP/1.1 20 x\r\n\r\n": api.ErrHead, "HTTP/1.1 0200 x\r\n\r\n": api.ErrHead, "HTTP/1.1 2000 x\r\n\r\n": api.ErrHead, "HTTP/1.1 2x0 x\r\n\r\n": api.ErrHead, "HTTP/1.1  200 x\r\n\r\n": api.ErrHead, "HTTP/1.1\t200 x\r\n\r\n": api.ErrHead, "HTTP/1.1 200\tx\r\n\r\n": api.ErrHead, " HTTP/1.1 200 x\r\n\r\n": api.ErrHead, "HTTP/1.1 200 a\x7f\r\n\r\n": api.ErrHead, "HTTP/1.1 200 a\nb\r\n\r\n": api.ErrHead, "HTTP/1.1 200 a\rb\r\n\r\n": api.ErrHead, "HTTP/1.1 200 a\x00\r\n\r\n": api.ErrHead, "a: b\r\n\r\n": api.ErrHead, "HTTP/1.1 -20 x\r\n\r\n": api.ErrHead,
		status + "a\r\n\r\n": api.ErrHead, status + ": b\r\n\r\n": api.ErrHead, status + "a : b\r\n\r\n": api.ErrHead, status + " a: b\r\n\r\n": api.ErrHead, status + "a: b\r\n c\r\n\r\n": api.ErrHead, status + "a: b\r\n\tc: d\r\n\r\n": api.ErrHead, status + "a: b\nc: d\r\n\r\n": api.ErrHead, status + "a: b\rc\r\n\r\n": api.ErrHead, status + "a: \x1f\r\n\r\n": api.ErrHead, status + "a(: b\r\n\r\n": api.ErrHead, status + "ä: b\r\n\r\n": api.ErrHead, status + "a: b\r\r\n\r\n": api.ErrHead,
		status + strings.Repeat("a:b\r\n", 65) + "\r\n": api.ErrTooMany, status + strings.Repeat("a:b\r\n", 64) + "?\r\n\r\n": api.ErrTooMany, status + strings.Repeat("a:b\r\n", 63) + "?\r\na:b\r\na:b\r\n\r\n": api.ErrHead, "x\r\n" + strings.Repeat("a:b\r\n", 65) + "\r\n": api.ErrHead,
	} {
		if got, at, err := Parse(s); !reflect.DeepEqual(got, api.Head{}) || at != 0 || err != want {
			t.Errorf("Parse(%.80q) = %.80v, %d, %d", s, got, at, err)
		}
	}
}

func TestP18_1ParseAtTheLimit(t *testing.T) {
	s := status + "a:" + strings.Repeat("b", api.MaxHead-len(status)-6) + "\r\n\r\n"
	if _, at, err := Parse(s); at != api.MaxHead || err != api.OK {
		t.Errorf("at the limit: %d, %d", at, err)
	}
	longer := strings.Replace(s, "b", "bb", 1)
	if _, _, err := Parse(longer); err != api.ErrTooLarge {
		t.Errorf("above the limit: %d", err)
	}
	if _, _, err := Parse(longer[:api.MaxHead]); err != api.ErrTruncated {
		t.Errorf("cut off at the limit: %d", err)
	}
}

func TestP18_1ParseAgreesWithItsGrammar(t *testing.T) {
	grammar := regexp.MustCompile("^HTTP/1[.][01] [1-5][0-9][0-9] [ \t!-~]*\r\n([!aB]+:[ \t!-~]*\r\n)*\r\n")
	for rest := range sample.Texts(6, "a", "B", ":", "\r\n", " ", "\r", "\n", "!") {
		s := "HTTP/1.1 200 x" + rest + "\r\n\r\n"
		_, at, err := Parse(s)
		if m := grammar.FindString(s); (err == api.OK) != (m != "") || at != len(m) {
			t.Errorf("Parse(%q): %d, %d", s, at, err)
		}
	}
}

var raw = api.Head{Fields: []api.Field{{Name: "a", Value: "1"}, {Name: "b", Value: "x"}, {Name: "A", Value: "2, 3"}, {Name: "c"}}}

func TestP18_2ValuesAndGet(t *testing.T) {
	for name, want := range map[string][]string{"a": {"1", "2, 3"}, "A": {"1", "2, 3"}, "b": {"x"}, "c": {""}, "d": nil, "": nil} {
		if got := Values(raw, name); !slices.Equal(got, want) {
			t.Errorf("Values(%q) = %q", name, got)
		}
		if got, ok := Get(raw, name); got != strings.Join(want, ", ") || ok != (want != nil) {
			t.Errorf("Get(%q) = %q, %v", name, got, ok)
		}
	}
}

func TestP18_3Format(t *testing.T) {
	for want, h := range map[string]api.Head{
		"HTTP/1.0 0 -\r\n\r\n": {}, "HTTP/1.1 -9223372036854775808 -\r\n\r\n": {Minor: -1, Status: math.MinInt}, "HTTP/1.1 200 -\r\nA: b \r\nx\n: \r\n\r\n": {Minor: 9, Status: 200, Fields: []api.Field{{Name: "A", Value: "b "}, {Name: "x\n"}}},
	} {
		if got := Format(h); got != want {
			t.Errorf("Format(%+v) = %q", h, got)
		}
	}
}

func TestConsequences(t *testing.T) {
	for rest := range sample.Mixed(5000, 7, "A: b\r\n", "x:\r\n", "C:\t d e \r\n", "?", "\r\n", "é: f\r\n", "g: \xff\r\n") {
		h, _, err := Parse("HTTP/1.0 204 reason\r\n" + rest + "\r\n")
		if err != api.OK {
			continue
		}
		text := Format(h)
		if again, at, err := Parse(text); !reflect.DeepEqual(again, h) || at != len(text) || err != api.OK {
			t.Errorf("Parse(Format(%+v)) = %+v, %d, %d", h, again, at, err)
		}
	}
}
