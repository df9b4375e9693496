package didweb

import (
	"strings"
	"testing"

	"webfinger/api"
	"webfinger/did"
	"webfinger/sample"
	"webfinger/weburl"
)

func web(id string) api.DID { return api.DID{Method: "web", ID: id} }

func TestP11_1Authority(t *testing.T) {
	for id, want := range map[string]api.HostPort{
		"example.com": {Host: "example.com"}, "Example.com%3A8443:users:alice": {Host: "example.com", Port: 8443}, "a%3a443": {Host: "a"}, "%41.b": {Host: "a.b"}, "1.2.3.4%3A1::x": {Host: "1.2.3.4", Port: 1}, "a:..": {Host: "a"},
	} {
		if got, err := Authority(web(id)); got != want || err != api.OK {
			t.Errorf("Authority(%q) = %+v, %d", id, got, err)
		}
	}
	for d, want := range map[api.DID]api.Errno{
		{}: api.ErrMethod, {Method: "Web", ID: "a"}: api.ErrMethod, {Method: "webs", ID: "%"}: api.ErrMethod,
		web(""): api.ErrEmpty, web("a:"): api.ErrEmpty, web("a..b:%"): api.ErrPercent, web("a..b:~"): api.ErrChar, web("a/b"): api.ErrChar, web("a:b:" + strings.Repeat("x", api.MaxText)): api.ErrLimit,
		web(":a"): api.ErrEmpty, web("a..b"): api.ErrHost, web("a%2Fb"): api.ErrHost, web("a_b"): api.ErrHost, web("a%3A"): api.ErrPort, web("a%3A0"): api.ErrPort, web("a%3A80%3A1"): api.ErrPort, web("%3A80"): api.ErrEmpty, web("a%40b"): api.ErrHost, web(strings.Repeat("a", 254)): api.ErrLimit,
	} {
		if got, err := Authority(d); got != (api.HostPort{}) || err != want {
			t.Errorf("Authority(%.40v) = %+v, %d", d, got, err)
		}
	}
}

func TestP11_2ToURL(t *testing.T) {
	for id, want := range map[string]string{
		"example.com%3A8443:users:alice": "https://example.com:8443/users/alice/did.json", "A.example": "https://a.example/.well-known/did.json", "a:.well-known": "https://a/.well-known/did.json", "a%3A443:b": "https://a/b/did.json",
		"a:b%2Fc": "https://a/b%2Fc/did.json", "a:%7e": "https://a/~/did.json", "a:%41%c3": "https://a/A%C3/did.json", "a:...": "https://a/.../did.json", "a:.well-known:x": "https://a/.well-known/x/did.json", "a:did.json": "https://a/did.json/did.json", "a:%3A": "https://a/%3A/did.json", "a:%25": "https://a/%25/did.json",
	} {
		if got, err := ToURL(web(id)); weburl.Format(got) != want || err != api.OK || !weburl.Valid(got) {
			t.Errorf("ToURL(%q) = %+v, %d", id, got, err)
		}
	}
	for d, want := range map[api.DID]api.Errno{
		{Method: "x", ID: "a"}: api.ErrMethod, web("a..b:.."): api.ErrHost, web("a:..:"): api.ErrEmpty,
		web("a:.."): api.ErrSegment, web("a:."): api.ErrSegment, web("a:%2e"): api.ErrSegment, web("a:%2E.:b"): api.ErrSegment, web("a::b"): api.ErrSegment, web("a:b:.:c"): api.ErrSegment,
		web("a:" + strings.Repeat("x", api.MaxText-18)): api.ErrLimit, web("a:" + strings.Repeat("x", 4000) + ":." + strings.Repeat("y", 80)): api.ErrLimit,
	} {
		if got, err := ToURL(d); got != (api.URL{}) || err != want {
			t.Errorf("ToURL(%.40v) = %+v, %d", d, got, err)
		}
	}
	if u, err := ToURL(web("a:" + strings.Repeat("x", api.MaxText-19))); err != api.OK || len(weburl.Format(u)) != api.MaxText {
		t.Errorf("at the limit: %d, %d", err, len(weburl.Format(u)))
	}
}

func TestP11_3FromURL(t *testing.T) {
	for url, want := range map[string]string{
		"https://example.com:8443/users/alice/did.json": "example.com%3A8443:users:alice", "https://a/.well-known/did.json": "a", "https://a/.well-known/x/did.json": "a:.well-known:x", "https://a/x/.well-known/did.json": "a:x:.well-known",
		"https://a/~/did.json": "a:%7E", "https://a/b%2fc/did.json": "a:b%2Fc", "https://a/did.json/did.json": "a:did.json", "https://1.2.3.4/%25-_./did.json": "1.2.3.4:%25-_.",
	} {
		u, _ := weburl.Parse(url)
		if got, err := FromURL(u); got != web(want) || err != api.OK {
			t.Errorf("FromURL(%q) = %+v, %d", url, got, err)
		}
	}
	for url, want := range map[string]api.Errno{
		"https://a/b/did.json?": api.ErrForm, "https://a/b/did.json#": api.ErrForm, "https://a/": api.ErrForm, "https://a/b/did.json/": api.ErrForm, "https://a/b/DID.json": api.ErrForm, "https://a/b/xdid.json": api.ErrForm, "https://a//x": api.ErrForm, "https://a/did.json?q": api.ErrForm,
		"https://a/did.json": api.ErrSegment, "https://a//did.json": api.ErrSegment, "https://a/b//did.json": api.ErrSegment, "https://a/b:c/did.json": api.ErrSegment, "https://a/b+c/did.json": api.ErrSegment, "https://a/@/did.json": api.ErrSegment, "https://a//.well-known/did.json": api.ErrSegment,
		"https://a/" + strings.Repeat("~", 2000) + "/did.json": api.ErrLimit,
	} {
		u, errno := weburl.Parse(url)
		if got, err := FromURL(u); errno != api.OK || got != (api.DID{}) || err != want {
			t.Errorf("FromURL(%.40q) = %+v, %d", url, got, err)
		}
	}
	for _, u := range []api.URL{{}, {Host: "a"}, {Host: "A", Path: "/b/did.json"}, {Host: "a", Path: "/%7e/did.json"}, {Host: "a", Port: 443, Path: "/b"}, {Host: "a", Path: "/../did.json"}} {
		if got, err := FromURL(u); got != (api.DID{}) || err != api.ErrInvalid {
			t.Errorf("FromURL(%+v) = %+v, %d", u, got, err)
		}
	}
}

func TestP11_3FromURLAtTheLimit(t *testing.T) {
	// "did:web:a:" has 10 bytes; 1362 tildes take three each.
	path := strings.Repeat("~", 1362)
	if d, err := FromURL(api.URL{Host: "a", Path: "/" + path + "/did.json"}); err != api.OK || len(did.FormatDID(d)) != api.MaxText {
		t.Errorf("at the limit: %d, %d", err, len(did.FormatDID(d)))
	}
	if _, err := FromURL(api.URL{Host: "a", Path: "/" + path + "b/did.json"}); err != api.ErrLimit {
		t.Errorf("above the limit: %d", err)
	}
}

func TestP11_4Canonical(t *testing.T) {
	for id, want := range map[string]string{"a.example:.well-known": "a.example", "A.example": "a.example", "a%3A443:%7e": "a:%7E", "a%3a80": "a%3A80", "a:b%2Fc": "a:b%2Fc", "%61:%2d": "a:-"} {
		if got, err := Canonical(web(id)); got != web(want) || err != api.OK {
			t.Errorf("Canonical(%q) = %+v, %d", id, got, err)
		}
	}
	for d, want := range map[api.DID]api.Errno{{Method: "x"}: api.ErrMethod, web("a:.."): api.ErrSegment, web(""): api.ErrEmpty, web("a b"): api.ErrChar, web("a:" + strings.Repeat("x", 4080)): api.ErrLimit} {
		if got, err := Canonical(d); got != (api.DID{}) || err != want {
			t.Errorf("Canonical(%.40v) = %+v, %d", d, got, err)
		}
	}
}

func TestConsequences(t *testing.T) {
	for rest := range sample.Texts(5, "a", ":", ".", "%7e", "%2F", "%3A8", ".well-known", "~") {
		d, err := Canonical(web("H" + rest))
		if err != api.OK {
			continue
		}
		if again, err := Canonical(d); again != d || err != api.OK {
			t.Errorf("Canonical(%+v) = %+v, %d", d, again, err)
		}
		u, err := ToURL(d)
		back, err2 := FromURL(u)
		if back != d || err != api.OK || err2 != api.OK {
			t.Errorf("FromURL(ToURL(%+v)) = %+v, %d, %d", d, back, err, err2)
		}
	}
	for rest := range sample.Texts(5, "a", "/", ".", "~", "%2F", "did.json", "/.well-known", ":") {
		u, err := weburl.Parse("https://h/" + rest + "/did.json")
		if err != api.OK {
			continue
		}
		if d, err := FromURL(u); err == api.OK {
			if back, err := ToURL(d); back != u || err != api.OK {
				t.Errorf("ToURL(FromURL(%+v)) = %+v, %d", u, back, err)
			}
		}
	}
}
