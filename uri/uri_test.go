package uri

import (
	"net/url"
	"strings"
	"testing"

	"webfinger/api"
	"webfinger/sample"
)

func TestP6_1Split(t *testing.T) {
	for s, want := range map[string]api.URI{
		"":                            {},
		"https://a:1/b/c?d?e#f?g#h":   {Scheme: "https", HasScheme: true, Authority: "a:1", HasAuthority: true, Path: "/b/c", Query: "d?e", HasQuery: true, Fragment: "f?g#h", HasFrag: true},
		"acct:a@b":                    {Scheme: "acct", HasScheme: true, Path: "a@b"},
		"//host":                      {Authority: "host", HasAuthority: true},
		"///p":                        {HasAuthority: true, Path: "/p"},
		"a+-.9:":                      {Scheme: "a+-.9", HasScheme: true},
		"a:b:c":                       {Scheme: "a", HasScheme: true, Path: "b:c"},
		"./a:b":                       {Path: "./a:b"},
		"/1:b":                        {Path: "/1:b"},
		"?#":                          {HasQuery: true, HasFrag: true},
		"#?":                          {HasFrag: true, Fragment: "?"},
		"?1:2":                        {HasQuery: true, Query: "1:2"},
		"x?//y":                       {Path: "x", HasQuery: true, Query: "//y"},
		"#//y:z":                      {HasFrag: true, Fragment: "//y:z"},
		"http:/a//b":                  {Scheme: "http", HasScheme: true, Path: "/a//b"},
		"//u@h:1?q":                   {Authority: "u@h:1", HasAuthority: true, HasQuery: true, Query: "q"},
		"\x00\xff ":                   {Path: "\x00\xff "},
		strings.Repeat("a", 4*4096):   {Path: strings.Repeat("a", 4*4096)},
		"http://h" + "?" + "a/b:c#d:": {Scheme: "http", HasScheme: true, Authority: "h", HasAuthority: true, HasQuery: true, Query: "a/b:c", HasFrag: true, Fragment: "d:"},
	} {
		if got, err := Split(s); got != want || err != api.OK {
			t.Errorf("Split(%q) = %+v, %d", s, got, err)
		}
	}
	for s, want := range map[string]api.Errno{
		strings.Repeat("a", 4*4096+1): api.ErrLimit, strings.Repeat(":", 4*4096+1): api.ErrLimit, strings.Repeat(":", 4*4096): api.ErrForm,
		":": api.ErrForm, ":a": api.ErrForm, "1a:b": api.ErrForm, "-a:b": api.ErrForm, "a_b:c": api.ErrForm, "a b:": api.ErrForm, "%41:b": api.ErrForm, "ä:b": api.ErrForm, "a@b:c/d": api.ErrForm,
	} {
		if got, err := Split(s); got != (api.URI{}) || err != want {
			t.Errorf("Split(%.20q) = %+v, %d", s, got, err)
		}
	}
}

func TestP6_2Join(t *testing.T) {
	for want, u := range map[string]api.URI{
		"": {}, "s:": {Scheme: "s", HasScheme: true}, "//": {HasAuthority: true}, "?": {HasQuery: true}, "#": {HasFrag: true},
		"s://a/p?q#f": {Scheme: "s", HasScheme: true, Authority: "a", HasAuthority: true, Path: "/p", Query: "q", HasQuery: true, Fragment: "f", HasFrag: true},
		"/p":          {Scheme: "s", Authority: "a", Path: "/p", Query: "q", Fragment: "f"},
	} {
		if got := Join(u); got != want {
			t.Errorf("Join(%+v) = %q", u, got)
		}
	}
	for s := range sample.Texts(6, "a", ":", "/", "?", "#", "1") {
		if u, err := Split(s); err == api.OK && Join(u) != s {
			t.Errorf("Join(Split(%q)) = %q", s, Join(u))
		}
	}
}

func TestP6_3RemoveDots(t *testing.T) {
	for path, want := range map[string]string{
		"": "", "/": "/", "/a/b/c/./../../g": "/a/g", "mid/content=5/../6": "mid/6", ".": "", "..": "", "./": "", "../": "", "../..": "", "../../a": "a", "./a": "a", "/.": "/", "/..": "/", "/../": "/", "/./": "/",
		"/a/..": "/", "/a/.": "/a/", "a/..": "/", "a/../b": "/b", "a/../../b": "/b", "/../../a": "/a", "/a//..": "/a/", "//..": "/", "//../": "/", "/...": "/...", "/.a": "/.a", "/..a/b": "/..a/b", "/a/b/..": "/a/", "//": "//", "/a/./b": "/a/b", ".a": ".a", "..a": "..a", "a/.": "a/",
	} {
		if got := RemoveDots(path); got != want {
			t.Errorf("RemoveDots(%q) = %q", path, got)
		}
	}
	for path := range sample.Texts(7, "/", ".", "..", "a") {
		if got := RemoveDots(path); got != removeByTheRules(path) {
			t.Errorf("RemoveDots(%q) = %q", path, got)
		}
	}
}

// removeByTheRules follows the rules of the document to the letter.
func removeByTheRules(in string) string {
	out := ""
	for in != "" {
		switch {
		case strings.HasPrefix(in, "../"):
			in = strings.TrimPrefix(in, "../")
		case strings.HasPrefix(in, "./"):
			in = strings.TrimPrefix(in, "./")
		case strings.HasPrefix(in, "/./"):
			in = "/" + strings.TrimPrefix(in, "/./")
		case in == "/.":
			in = "/"
		case strings.HasPrefix(in, "/../"), in == "/..":
			in = "/" + strings.TrimPrefix(strings.TrimPrefix(in, "/.."), "/")
			out = out[:max(strings.LastIndex(out, "/"), 0)]
		case in == ".", in == "..":
			in = ""
		default:
			next := strings.Index(in[1:], "/") + 1
			if next == 0 {
				next = len(in)
			}
			out, in = out+in[:next], in[next:]
		}
	}
	return out
}

func TestP6_4ResolveExamples(t *testing.T) {
	for ref, want := range map[string]string{
		"g:h": "g:h", "g": "http://a/b/c/g", "./g": "http://a/b/c/g", "g/": "http://a/b/c/g/", "/g": "http://a/g", "//g": "http://g", "?y": "http://a/b/c/d;p?y", "g?y": "http://a/b/c/g?y", "#s": "http://a/b/c/d;p?q#s", "g#s": "http://a/b/c/g#s", "g?y#s": "http://a/b/c/g?y#s",
		";x": "http://a/b/c/;x", "": "http://a/b/c/d;p?q", ".": "http://a/b/c/", "./": "http://a/b/c/", "..": "http://a/b/", "../": "http://a/b/", "../g": "http://a/b/g", "../..": "http://a/", "../../g": "http://a/g", "../../../g": "http://a/g", "/./g": "http://a/g", "/../g": "http://a/g",
		"g.": "http://a/b/c/g.", "..g": "http://a/b/c/..g", "./../g": "http://a/b/g", "g/./h": "http://a/b/c/g/h", "g/../h": "http://a/b/c/h", "g;x=1/../y": "http://a/b/c/y", "g?y/../x": "http://a/b/c/g?y/../x", "g#s/../x": "http://a/b/c/g#s/../x", "http:g": "http:g", "http:a/../g": "http:/g", "//g/a/../b": "http://g/b", "?": "http://a/b/c/d;p?", "#": "http://a/b/c/d;p?q#",
	} {
		checkResolve(t, "http://a/b/c/d;p?q", ref, want)
	}
	checkResolve(t, "http://a", "b", "http://a/b")
	checkResolve(t, "http://a?q", "b", "http://a/b")
	checkResolve(t, "http://a?q#f", "", "http://a?q")
	checkResolve(t, "x:a", "b", "x:b")
	checkResolve(t, "x:a/b", "c", "x:a/c")
	checkResolve(t, "x:", "c", "x:c")
	checkResolve(t, "a/b", "../c", "/c")
	checkResolve(t, "http://a/b/../c", "", "http://a/b/../c")
	checkResolve(t, "http://a/b?q", "//c", "http://c")
}

func checkResolve(t *testing.T, base, ref, want string) {
	t.Helper()
	b, err := Split(base)
	r, err2 := Split(ref)
	if got := Join(Resolve(b, r)); got != want || err != api.OK || err2 != api.OK {
		t.Errorf("Resolve(%q, %q) = %q", base, ref, got)
	}
}

func TestP6_4ResolveAgreesWithNetURL(t *testing.T) {
	for _, base := range []string{"http://a/b/c/d?q#f", "http://a/b/", "http://a/"} {
		parsed, _ := url.Parse(base)
		for ref := range sample.Texts(6, "/", "..", ".", "x") {
			want, err := parsed.Parse(ref)
			if err != nil || ref == "" || strings.Contains(ref, "//") {
				continue
			}
			checkResolve(t, base, ref, want.String())
		}
	}
}

func TestConsequences(t *testing.T) {
	base := api.URI{Scheme: "s", HasScheme: true, Authority: "h", HasAuthority: true, Path: "/a/../b", Query: "q", HasQuery: true, Fragment: "f", HasFrag: true}
	want := base
	want.Fragment, want.HasFrag = "", false
	if got := Resolve(base, api.URI{}); got != want {
		t.Errorf("Resolve of the empty reference = %+v", got)
	}
	for rest := range sample.Texts(6, "/", ".", "..", "a") {
		path := "/" + rest
		once := RemoveDots(path)
		if RemoveDots(once) != once {
			t.Errorf("RemoveDots twice of %q = %q", path, RemoveDots(once))
		}
		for _, segment := range strings.Split(once, "/") {
			if segment == "." || segment == ".." {
				t.Errorf("RemoveDots(%q) = %q", path, once)
			}
		}
	}
}
