package ident

import (
	"strings"
	"testing"

	"webfinger/api"
	"webfinger/sample"
)

func TestP12_1Parse(t *testing.T) {
	for s, want := range map[string]api.ID{
		"acct:Bob@Example.com":                {Kind: api.KindAcct, Text: "acct:Bob@example.com", Host: "example.com"},
		"ACCT:%7e@A":                          {Kind: api.KindAcct, Text: "acct:~@a", Host: "a"},
		"MailTo:%61.b%2Bc@Example.org":        {Kind: api.KindMail, Text: "mailto:a.b+c@example.org", Host: "example.org"},
		"HTTPS://A.example:443":               {Kind: api.KindWeb, Text: "https://a.example/", Host: "a.example"},
		"https://a:8443/b?c#d":                {Kind: api.KindWeb, Text: "https://a:8443/b?c#d", Host: "a", Port: 8443},
		"did:web:A.example%3a8443:.":          {},
		"did:web:A.example%3a8443:u%73ers":    {Kind: api.KindDID, Text: "did:web:a.example%3A8443:users", Host: "a.example", Port: 8443},
		"did:web:a.example%3A443:.well-known": {Kind: api.KindDID, Text: "did:web:a.example", Host: "a.example"},
	} {
		got, err := Parse(s)
		if got != want || (err == api.OK) != (want.Kind != 0) {
			t.Errorf("Parse(%q) = %+v, %d", s, got, err)
		}
	}
}

func TestP12_1ParseErrors(t *testing.T) {
	for s, want := range map[string]api.Errno{
		strings.Repeat("x", api.MaxText+1): api.ErrLimit, strings.Repeat("x", api.MaxText): api.ErrScheme, "https://a/" + strings.Repeat("x", api.MaxText): api.ErrLimit,
		"": api.ErrScheme, ":": api.ErrScheme, "acct": api.ErrScheme, "https": api.ErrScheme, "http://a": api.ErrScheme, "a@b": api.ErrScheme, " acct:a@b": api.ErrScheme, "xmpp:a@b": api.ErrScheme, "acct%3Aa@b": api.ErrScheme, "//a": api.ErrScheme, "mail:a@b": api.ErrScheme,
		"acct:a": api.ErrForm, "acct:@a": api.ErrUser, "acct:a@": api.ErrEmpty, "acct:a@b:1": api.ErrHost, "mailto:a@1.2.3.4": api.ErrHost, "mailto:a b@c": api.ErrChar, "mailto:a@b?c": api.ErrForm, "https:a": api.ErrAuthority, "https://u@a": api.ErrUserinfo, "https://a/%": api.ErrPercent, "https://a:0": api.ErrPort,
		"Did:example:1": api.ErrScheme, "DID:web:a": api.ErrScheme, "did:web": api.ErrForm, "did:example:1": api.ErrMethod, "did:W:a": api.ErrMethod, "did:web:a:..": api.ErrSegment, "did:web:": api.ErrEmpty, "did:web:a..b": api.ErrHost, "did:web:a#k": api.ErrChar, "did:web:%": api.ErrPercent, "did:web:a%3Ax": api.ErrPort,
	} {
		if got, err := Parse(s); got != (api.ID{}) || err != want {
			t.Errorf("Parse(%.40q) = %+v, %d", s, got, err)
		}
	}
}

func TestP12_2Valid(t *testing.T) {
	id, _ := Parse("https://a:8443/")
	if !Valid(id) {
		t.Errorf("%+v is not valid", id)
	}
	for _, change := range []func(*api.ID){
		func(id *api.ID) { id.Kind = api.KindAcct }, func(id *api.ID) { id.Text = "https://a:8443" }, func(id *api.ID) { id.Host = "b" }, func(id *api.ID) { id.Port = 0 }, func(id *api.ID) { *id = api.ID{} }, func(id *api.ID) { id.Text = "" }, func(id *api.ID) { id.Text = "https://a:8443/" + strings.Repeat("x", api.MaxText) },
	} {
		other := id
		if change(&other); Valid(other) {
			t.Errorf("%.99v is valid", other)
		}
	}
}

func TestP12_2Authority(t *testing.T) {
	if got := Authority(api.ID{Kind: 9, Text: "x", Host: "H", Port: -3}); got != (api.HostPort{Host: "H", Port: -3}) {
		t.Errorf("Authority = %+v", got)
	}
}

func TestP12_2Same(t *testing.T) {
	for _, c := range []struct {
		a, b string
		want bool
	}{
		{"https://a.example", "HTTPS://A.example:443/", true}, {"acct:a@b", "ACCT:%61@B", true}, {"mailto:a@b", "mailto:%61@b", true}, {"did:web:a", "did:web:A:.well-known", true},
		{"acct:a@b", "acct:A@b", false}, {"acct:a@b", "mailto:a@b", false}, {"https://a/", "https://a/#", false}, {"x", "x", false}, {"", "", false}, {"acct:a@b", "acct:", false}, {"acct:", "acct:a@b", false},
	} {
		if Same(c.a, c.b) != c.want || Same(c.b, c.a) != c.want {
			t.Errorf("Same(%q, %q) = %v", c.a, c.b, !c.want)
		}
	}
}

func TestConsequences(t *testing.T) {
	for s := range sample.Texts(5, "acct:", "mailto:", "HTTPS://", "did:web:", "a", "@", "%7e", "/", ":", "#") {
		id, err := Parse(s)
		if err != api.OK {
			if id != (api.ID{}) || Same(s, s) {
				t.Errorf("Parse(%q) = %+v, %d", s, id, err)
			}
			continue
		}
		if again, err := Parse(id.Text); again != id || err != api.OK || !Valid(id) || !Same(s, id.Text) {
			t.Errorf("Parse(%q) = %+v, %d", id.Text, again, err)
		}
	}
}
