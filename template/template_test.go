package template

import (
	"strings"
	"testing"

	"webfinger/api"
	"webfinger/percent"
	"webfinger/sample"
)

func TestP23_1Valid(t *testing.T) {
	for s, want := range map[string]bool{
		"{uri}": true, "a{uri}b{uri}{uri}": true, "https://a.example/x?r={uri}": true, "\xff{uri}\n": true,
		"": false, "uri": false, "{}": false, "{uri": false, "uri}": false, "{URI}": false, "{ uri}": false, "{{uri}}": false, "{uri}}": false, "{{uri}": false, "{uri}{": false, "{uri}{x}": false, "{+uri}{uri}": false, "}{uri}": false, "{uri{uri}}": false, "%7Buri%7D": false,
	} {
		if Valid(s) != want {
			t.Errorf("Valid(%q) = %v", s, !want)
		}
	}
	for s := range sample.Texts(6, "{uri}", "{", "}", "uri", "a", "{ur") {
		rest := strings.ReplaceAll(s, "{uri}", "!")
		if want := strings.Contains(rest, "!") && !strings.ContainsAny(rest, "{}"); Valid(s) != want {
			t.Errorf("Valid(%q) = %v", s, !want)
		}
	}
}

func TestP23_1Expand(t *testing.T) {
	for _, c := range []struct{ t, uri, want string }{
		{"https://a.example/x?r={uri}", "acct:b@c.example", "https://a.example/x?r=acct%3Ab%40c.example"}, {"{uri}", "", ""}, {"{uri}/{uri}", "{uri}", "%7Buri%7D/%7Buri%7D"}, {"a%20{uri} b", "%41&#?/ä~", "a%20%2541%26%23%3F%2F%C3%A4~ b"},
	} {
		if got, err := Expand(c.t, c.uri); got != c.want || err != api.OK {
			t.Errorf("Expand(%q, %q) = %q, %d", c.t, c.uri, got, err)
		}
	}
}

func TestP23_1ExpandErrors(t *testing.T) {
	long := strings.Repeat("x", api.MaxText)
	for _, c := range []struct {
		t, uri string
		err    api.Errno
	}{
		{"", "a", api.ErrTemplate}, {"{x}", long, api.ErrTemplate}, {long, "", api.ErrTemplate}, {long + "x", "", api.ErrLimit}, {long + "{", "", api.ErrLimit}, {long + "{uri}", "", api.ErrLimit},
		{"{uri}", long, api.OK}, {"{uri}", long + "x", api.ErrLimit}, {"{uri}", strings.Repeat(":", api.MaxText/3), api.OK}, {"{uri}", strings.Repeat(":", api.MaxText/3+1), api.ErrLimit}, {"{uri}{uri}", long[:2048], api.OK}, {"{uri}{uri}", long[:2049], api.ErrLimit}, {long[:api.MaxText-5] + "{uri}", "abcde", api.OK}, {long[:api.MaxText-5] + "{uri}", "abcdef", api.ErrLimit}, {strings.Repeat("{uri}", 819), strings.Repeat("x", 1<<20), api.ErrLimit},
	} {
		got, err := Expand(c.t, c.uri)
		if err != c.err || (err != api.OK) != (got == "") {
			t.Errorf("Expand(%.40q, %d bytes) = %d bytes, %d", c.t, len(c.uri), len(got), err)
		}
	}
}

func TestConsequences(t *testing.T) {
	for uri := range sample.Mixed(3000, 8, sample.Bytes()...) {
		got, err := Expand("a{uri}b{uri}", uri)
		value := percent.Encode(uri, "")
		if got != "a"+value+"b"+value || err != api.OK || strings.ContainsAny(got, "{}&#?/") {
			t.Errorf("Expand(%q) = %q, %d", uri, got, err)
		}
	}
}
