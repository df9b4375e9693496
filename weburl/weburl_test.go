package weburl

import (
	"strings"
	"testing"

	"webfinger/api"
	"webfinger/sample"
	"webfinger/uri"
)

func TestP7_1Parse(t *testing.T) {
	for s, want := range map[string]api.URL{
		"https://a":                                {Host: "a", Path: "/"},
		"HTTPS://Example.com:443/a/./%7eb?x#y":     {Host: "example.com", Path: "/a/~b", Query: "x", HasQuery: true, Fragment: "y", HasFrag: true},
		"hTtPs://A.B:8443":                         {Host: "a.b", Port: 8443, Path: "/"},
		"https://a?#":                              {Host: "a", Path: "/", HasQuery: true, HasFrag: true},
		"https://a/%2e%2E/b/%2e/c":                 {Host: "a", Path: "/b/c"},
		"https://a/../..":                          {Host: "a", Path: "/"},
		"https://a/b%2f%2e%2e/c":                   {Host: "a", Path: "/b%2F../c"},
		"https://a//b/":                            {Host: "a", Path: "//b/"},
		"https://a/!$&'()*+,;=:@/?!$&'()*+,;=:@/?": {Host: "a", Path: "/!$&'()*+,;=:@/", HasQuery: true, Query: "!$&'()*+,;=:@/?"},
		"https://a#!$&'()*+,;=:@/?":                {Host: "a", Path: "/", HasFrag: true, Fragment: "!$&'()*+,;=:@/?"},
		"https://1.2.3.4/%c3%A4?%61%2f#%62%3f":     {Host: "1.2.3.4", Path: "/%C3%A4", HasQuery: true, Query: "a%2F", HasFrag: true, Fragment: "b%3F"},
		"https://a?../.#../.":                      {Host: "a", Path: "/", HasQuery: true, Query: "../.", HasFrag: true, Fragment: "../."},
	} {
		if got, err := Parse(s); got != want || err != api.OK {
			t.Errorf("Parse(%q) = %+v, %d", s, got, err)
		}
	}
}

func TestP7_1ParseErrors(t *testing.T) {
	long := strings.Repeat("x", api.MaxText)
	for s, want := range map[string]api.Errno{
		long + ":": api.ErrLimit, ":" + long: api.ErrLimit,
		":": api.ErrForm, "1:": api.ErrForm, "": api.ErrScheme, "//a": api.ErrScheme, "http://a": api.ErrScheme, "http:": api.ErrScheme, "httpss://a": api.ErrScheme, "/https://a": api.ErrScheme,
		"https:": api.ErrAuthority, "https:/a": api.ErrAuthority, "https:a@b": api.ErrAuthority, "https:?//a": api.ErrAuthority,
		"https://u@a": api.ErrUserinfo, "https://@": api.ErrUserinfo, "https://u:p@a:1/": api.ErrUserinfo,
		"https://": api.ErrEmpty, "https:///p": api.ErrEmpty, "https://?": api.ErrEmpty, "https://a..b/%": api.ErrHost, "https://a:0/%": api.ErrPort, "https://a:": api.ErrPort, "https://a%2e": api.ErrHost, "https://[::1]": api.ErrHost, "https://" + strings.Repeat("a", 254): api.ErrLimit,
		"https://a/%": api.ErrPercent, "https://a/ ?%": api.ErrChar, "https://a/?%# ": api.ErrPercent, "https://a/?[#%": api.ErrChar, "https://a/#%": api.ErrPercent, "https://a/#a#b": api.ErrChar, "https://a/ä": api.ErrChar, "https://a/\"": api.ErrChar, "https://a/\\": api.ErrChar, "https://a/a\x7f": api.ErrChar, "https://a/[": api.ErrChar,
	} {
		if got, err := Parse(s); got != (api.URL{}) || err != want {
			t.Errorf("Parse(%.40q) = %+v, %d", s, got, err)
		}
	}
}

func TestP7_1ParseAtTheLimit(t *testing.T) {
	withPath := "https://a/" + strings.Repeat("x", api.MaxText-10)
	if u, err := Parse(withPath); err != api.OK || Format(u) != withPath {
		t.Errorf("at the limit: %d", err)
	}
	grows := "https://a?" + strings.Repeat("x", api.MaxText-10)
	if u, err := Parse(grows); err != api.ErrLimit || u != (api.URL{}) {
		t.Errorf("a result above the limit: %d", err)
	}
	if _, err := Parse(grows[1:]); err != api.ErrScheme {
		t.Errorf("another scheme: %d", err)
	}
}

func TestP7_2Format(t *testing.T) {
	for _, c := range []struct {
		u            api.URL
		text, target string
		valid        bool
	}{
		{api.URL{Host: "a", Path: "/"}, "https://a/", "/", true},
		{api.URL{Host: "a", Port: 8443, Path: "/p", Query: "q", HasQuery: true, Fragment: "f", HasFrag: true}, "https://a:8443/p?q#f", "/p?q", true},
		{api.URL{Host: "a", Path: "/", HasQuery: true, HasFrag: true}, "https://a/?#", "/?", true},
		{api.URL{Host: "a", Path: "/", Query: "q"}, "https://a/", "/", false},
		{api.URL{Host: "a", Path: "/", Fragment: "f"}, "https://a/", "/", false},
		{api.URL{Host: "a", Port: 443, Path: "/"}, "https://a:443/", "/", false},
		{api.URL{Host: "a", Port: -1, Path: "/"}, "https://a:-1/", "/", false},
		{api.URL{Host: "a"}, "https://a", "", false},
		{api.URL{Host: "A", Path: "/"}, "https://A/", "/", false},
		{api.URL{Host: "a", Path: "/%7e"}, "https://a/%7e", "/%7e", false},
		{api.URL{Host: "a", Path: "/a/../b"}, "https://a/a/../b", "/a/../b", false},
		{api.URL{Host: "a", Path: "/a?b"}, "https://a/a?b", "/a?b", false},
		{api.URL{Host: "a", Path: "/a#b"}, "https://a/a#b", "/a#b", false},
		{api.URL{Host: "a/b", Path: "/c"}, "https://a/b/c", "/c", false},
		{api.URL{Path: "/"}, "https:///", "/", false},
		{api.URL{}, "https://", "", false},
		{api.URL{Host: "a", Path: "/", Query: "#x", HasQuery: true}, "https://a/?#x", "/?#x", false},
		{api.URL{Host: "a", Path: "/" + strings.Repeat("x", api.MaxText)}, "https://a/" + strings.Repeat("x", api.MaxText), "/" + strings.Repeat("x", api.MaxText), false},
	} {
		if Format(c.u) != c.text || Target(c.u) != c.target || Valid(c.u) != c.valid || Origin(c.u) != (api.HostPort{Host: c.u.Host, Port: c.u.Port}) {
			t.Errorf("%+v: %.60q, %.60q, %v", c.u, Format(c.u), Target(c.u), Valid(c.u))
		}
	}
}

func TestP7_3Relative(t *testing.T) {
	base := api.URL{Host: "a", Port: 8443, Path: "/b/c", Query: "q", HasQuery: true, Fragment: "f", HasFrag: true}
	for ref, want := range map[string]string{
		"": "https://a:8443/b/c?q", "../d": "https://a:8443/d", "d": "https://a:8443/b/d", "/d%7e": "https://a:8443/d~", "//B": "https://b/", "?y": "https://a:8443/b/c?y", "#z": "https://a:8443/b/c?q#z", "HTTPS://X:443": "https://x/", ".": "https://a:8443/b/", "%2e%2e/x": "https://a:8443/x",
	} {
		if got, err := Relative(base, ref); Format(got) != want || err != api.OK {
			t.Errorf("Relative(%q) = %+v, %d", ref, got, err)
		}
	}
	for ref, want := range map[string]api.Errno{
		strings.Repeat("a", 4*api.MaxText+1): api.ErrLimit, strings.Repeat("a", api.MaxText): api.ErrLimit, "1:": api.ErrForm, "http://a/": api.ErrInsecure, "mailto:x@y": api.ErrInsecure, "http:%": api.ErrInsecure, "https:": api.ErrAuthority, "https:x": api.ErrAuthority,
		"//u@b": api.ErrUserinfo, "//": api.ErrEmpty, "//a..b": api.ErrHost, "//a:x": api.ErrPort, "%": api.ErrPercent, " ": api.ErrChar, "#%": api.ErrPercent,
	} {
		if got, err := Relative(base, ref); got != (api.URL{}) || err != want {
			t.Errorf("Relative(%.20q) = %+v, %d", ref, got, err)
		}
	}
	for _, base := range []api.URL{{}, {Host: "A", Path: "/"}, {Host: "a"}} {
		if got, err := Relative(base, "1:"); got != (api.URL{}) || err != api.ErrInvalid {
			t.Errorf("Relative of %+v = %+v, %d", base, got, err)
		}
	}
	if got, err := Relative(api.URL{Host: "a", Path: "/b/c"}, "../d"); Format(got) != "https://a/d" || err != api.OK {
		t.Errorf("Relative = %+v, %d", got, err)
	}
}

func TestConsequences(t *testing.T) {
	base := api.URL{Host: "other", Path: "/x/y", Fragment: "z", HasFrag: true}
	for rest := range sample.Texts(5, "/", "..", "%2e", "%7E", "a", "?", "#", ":8", "%") {
		u, err := Parse("https://H" + rest)
		if err != api.OK {
			continue
		}
		if again, err := Parse(Format(u)); again != u || err != api.OK || !Valid(u) {
			t.Errorf("Parse(Format(%+v)) = %+v, %d", u, again, err)
		}
		if got, err := Relative(base, Format(u)); got != u || err != api.OK {
			t.Errorf("Relative of %q = %+v, %d", Format(u), got, err)
		}
		want := u
		want.Fragment, want.HasFrag = "", false
		if got, err := Relative(u, ""); got != want || err != api.OK {
			t.Errorf("Relative(%+v, \"\") = %+v, %d", u, got, err)
		}
		checkRelativeByItsParts(t, u, rest)
	}
}

func checkRelativeByItsParts(t *testing.T, base api.URL, ref string) {
	t.Helper()
	from, _ := uri.Split(Format(base))
	to, err := uri.Split(ref)
	if err != api.OK || to.HasScheme {
		return
	}
	want, err := Parse(uri.Join(uri.Resolve(from, to)))
	if got, errno := Relative(base, ref); got != want || errno != err {
		t.Errorf("Relative(%q, %q) = %+v, %d", Format(base), ref, got, errno)
	}
}
