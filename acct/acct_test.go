package acct

import (
	"strings"
	"testing"

	"webfinger/api"
	"webfinger/sample"
)

func TestP8_1Parse(t *testing.T) {
	for s, want := range map[string]api.Acct{
		"acct:bob@example.com":                           {User: "bob", Host: "example.com"},
		"ACCT:Juliet%40capulet.example@Shopping.example": {User: "Juliet%40capulet.example", Host: "shopping.example"},
		"aCcT:a!$&'()*+,;=b@1.2.3.4":                     {User: "a!$&'()*+,;=b", Host: "1.2.3.4"},
		"acct:%41%7e%2f%c3%A4@A":                         {User: "A~%2F%C3%A4", Host: "a"},
		"acct:~-._@a":                                    {User: "~-._", Host: "a"},
		"acct:!@a":                                       {User: "!", Host: "a"},
	} {
		if got, err := Parse(s); got != want || err != api.OK {
			t.Errorf("Parse(%q) = %+v, %d", s, got, err)
		}
	}
}

func TestP8_1ParseErrors(t *testing.T) {
	long := strings.Repeat("x", api.MaxText-len("acct:@a"))
	if a, err := Parse("acct:" + long + "@a"); a.User != long || err != api.OK {
		t.Errorf("at the limit: %d", err)
	}
	for s, want := range map[string]api.Errno{
		"acct:" + long + "x@a": api.ErrLimit, strings.Repeat("x", api.MaxText+1): api.ErrLimit, strings.Repeat("x", api.MaxText): api.ErrScheme,
		"": api.ErrScheme, "acct": api.ErrScheme, "bob@a": api.ErrScheme, "mailto:b@a": api.ErrScheme, "acct%3Ab@a": api.ErrScheme, " acct:b@a": api.ErrScheme, "accta:b@c": api.ErrScheme,
		"acct:": api.ErrForm, "acct:bob": api.ErrForm, "acct:%": api.ErrForm, "acct:b%40a": api.ErrForm,
		"acct:@a": api.ErrUser, "acct:@": api.ErrUser, "acct:a b@..": api.ErrUser, "acct:%@": api.ErrUser, "acct:b%4@a": api.ErrUser, "acct:%2Fb@a": api.ErrUser, "acct:%40b@a": api.ErrUser, "acct:a:b@c": api.ErrUser, "acct:a/b@c": api.ErrUser, "acct:ä@c": api.ErrUser, "acct:a?b@c": api.ErrUser,
		"acct:b@": api.ErrEmpty, "acct:b@a:8": api.ErrHost, "acct:b@a@c": api.ErrHost, "acct:b@a..b": api.ErrHost, "acct:b@a?q": api.ErrHost, "acct:b@a#": api.ErrHost, "acct:b@" + strings.Repeat("a", 254): api.ErrLimit, "acct:b@1.2.3": api.ErrHost,
	} {
		if got, err := Parse(s); got != (api.Acct{}) || err != want {
			t.Errorf("Parse(%.40q) = %+v, %d", s, got, err)
		}
	}
}

func TestP8_2Format(t *testing.T) {
	for want, a := range map[string]api.Acct{"acct:b@a": {User: "b", Host: "a"}, "acct:@": {}, "acct:@@A:%": {User: "@", Host: "A:%"}} {
		if got := Format(a); got != want {
			t.Errorf("Format(%+v) = %q", a, got)
		}
	}
}

func TestConsequences(t *testing.T) {
	for rest := range sample.Texts(6, "a", "B", "%2f", "%7E", "@", "+", ":", "%") {
		a, err := Parse("Acct:" + rest)
		if err != api.OK {
			if a != (api.Acct{}) {
				t.Errorf("Parse(%q) = %+v, %d", rest, a, err)
			}
			continue
		}
		if again, err := Parse(Format(a)); again != a || err != api.OK || a.Host != strings.ToLower(a.Host) {
			t.Errorf("Parse(Format(%+v)) = %+v, %d", a, again, err)
		}
	}
}
