package did

import (
	"strings"
	"testing"

	"webfinger/api"
	"webfinger/sample"
)

func TestP10_1ParseDID(t *testing.T) {
	for s, want := range map[string]api.DID{
		"did:web:Example.com%3a8443:u%41": {Method: "web", ID: "Example.com%3A8443:uA"},
		"did:example1:aZ0.-_":             {Method: "example1", ID: "aZ0.-_"},
		"did:0:::a":                       {Method: "0", ID: "::a"},
		"did:x:%7e%7E":                    {Method: "x", ID: "%7E%7E"},
		"did:x:%2e%2d%5f%61%30":           {Method: "x", ID: ".-_a0"},
		"did:x:%c3%a4%25%2f":              {Method: "x", ID: "%C3%A4%25%2F"},
		"did:x:a%3a":                      {Method: "x", ID: "a%3A"},
		"did:did:did":                     {Method: "did", ID: "did"},
		"did:az09:azAZ09":                 {Method: "az09", ID: "azAZ09"},
	} {
		if got, err := ParseDID(s); got != want || err != api.OK {
			t.Errorf("ParseDID(%q) = %+v, %d", s, got, err)
		}
	}
}

func TestP10_1ParseDIDErrors(t *testing.T) {
	long := "did:x:" + strings.Repeat("y", api.MaxText-6)
	if _, err := ParseDID(long); err != api.OK {
		t.Errorf("at the limit: %d", err)
	}
	for s, want := range map[string]api.Errno{
		long + "y": api.ErrLimit, strings.Repeat(":", api.MaxText+1): api.ErrLimit,
		"": api.ErrScheme, "Did:x:y": api.ErrScheme, "DID:x:y": api.ErrScheme, "did": api.ErrScheme, "x:did:y": api.ErrScheme, " did:x:y": api.ErrScheme, "dida:x:y": api.ErrScheme,
		"did:": api.ErrForm, "did:web": api.ErrForm, "did:%": api.ErrForm, "did:We": api.ErrForm,
		"did::": api.ErrMethod, "did::a": api.ErrMethod, "did:Web:a": api.ErrMethod, "did:w-b:a": api.ErrMethod, "did:w%62:%": api.ErrMethod, "did: :a": api.ErrMethod, "did:ä:a": api.ErrMethod, "did:`:a": api.ErrMethod, "did:{:a": api.ErrMethod,
		"did:x:%": api.ErrPercent, "did:x:a b%4": api.ErrPercent, "did:x:~%zz:": api.ErrPercent, "did:x:%%41": api.ErrPercent,
		"did:x:~": api.ErrChar, "did:x:a b": api.ErrChar, "did:x:a/b": api.ErrChar, "did:x:a?b": api.ErrChar, "did:x:a#b": api.ErrChar, "did:x:@:": api.ErrChar, "did:x:ä": api.ErrChar, "did:x:+": api.ErrChar,
		"did:x:": api.ErrEmpty, "did:x:a:": api.ErrEmpty, "did:x::": api.ErrEmpty, "did:x:%41:": api.ErrEmpty,
	} {
		if got, err := ParseDID(s); got != (api.DID{}) || err != want {
			t.Errorf("ParseDID(%.40q) = %+v, %d", s, got, err)
		}
	}
}

func TestP10_2Parse(t *testing.T) {
	d := api.DID{Method: "web", ID: "a.example"}
	for rest, want := range map[string]api.DIDURL{
		"":                           {DID: d},
		"/p?q#k-1":                   {DID: d, Path: "/p", Query: "q", HasQuery: true, Fragment: "k-1", HasFrag: true},
		"?#":                         {DID: d, HasQuery: true, HasFrag: true},
		"#a/b?c":                     {DID: d, Fragment: "a/b?c", HasFrag: true},
		"?a/b?c":                     {DID: d, Query: "a/b?c", HasQuery: true},
		"/../%7e%2f/.":               {DID: d, Path: "/../~%2F/."},
		"//!$&'()*+,;=:@":            {DID: d, Path: "//!$&'()*+,;=:@"},
		"?%7e!$&'()*+,;=:@/?#%c3%a4": {DID: d, Query: "~!$&'()*+,;=:@/?", HasQuery: true, Fragment: "%C3%A4", HasFrag: true},
	} {
		if got, err := Parse("did:web:a.%65xample" + rest); got != want || err != api.OK {
			t.Errorf("Parse(%q) = %+v, %d", rest, got, err)
		}
	}
	longest := "did:x:a#" + strings.Repeat("y", api.MaxText-8)
	if u, err := Parse(longest); Format(u) != longest || err != api.OK {
		t.Errorf("at the limit: %d", err)
	}
	for s, want := range map[string]api.Errno{
		longest + "y": api.ErrLimit, "did:x:a#" + strings.Repeat("y", api.MaxText): api.ErrLimit, strings.Repeat("#", api.MaxText+1): api.ErrLimit,
		"": api.ErrScheme, "#k": api.ErrScheme, "/did:x:y": api.ErrScheme, "did:x": api.ErrForm, "did:x?a:b": api.ErrForm, "did:X:a/%": api.ErrMethod, "did:x:%/": api.ErrPercent, "did:x:~/": api.ErrChar, "did:x:/a": api.ErrEmpty, "did:x:a:#k": api.ErrEmpty,
		"did:x:a/%": api.ErrPercent, "did:x:a/ ?%": api.ErrChar, "did:x:a/?%# ": api.ErrPercent, "did:x:a? #%": api.ErrChar, "did:x:a#%": api.ErrPercent, "did:x:a#b#c": api.ErrChar, "did:x:a/ä": api.ErrChar, "did:x:a/[": api.ErrChar,
	} {
		if got, err := Parse(s); got != (api.DIDURL{}) || err != want {
			t.Errorf("Parse(%.40q) = %+v, %d", s, got, err)
		}
	}
}

func TestP10_3Format(t *testing.T) {
	for want, u := range map[string]api.DIDURL{
		"did::":               {},
		"did:x:y/p?q#f":       {DID: api.DID{Method: "x", ID: "y"}, Path: "/p", Query: "q", HasQuery: true, Fragment: "f", HasFrag: true},
		"did:X:~?#":           {DID: api.DID{Method: "X", ID: "~"}, HasQuery: true, HasFrag: true},
		"did:x:a":             {DID: api.DID{Method: "x", ID: "a"}, Query: "q", Fragment: "f"},
		"did:web:a.example%p": {DID: api.DID{Method: "web", ID: "a.example"}, Path: "%p"},
	} {
		if got := Format(u); got != want {
			t.Errorf("Format(%+v) = %q", u, got)
		}
	}
	if got := FormatDID(api.DID{Method: "web", ID: "a:b"}); got != "did:web:a:b" {
		t.Errorf("FormatDID = %q", got)
	}
}

func TestP10_4Resolve(t *testing.T) {
	d := api.DID{Method: "web", ID: "a.example"}
	for ref, want := range map[string]string{
		"": "did:web:a.example", "#k%2D1": "did:web:a.example#k-1", "/p": "did:web:a.example/p", "?q": "did:web:a.example?q", "/p?q#f": "did:web:a.example/p?q#f", "did:x:y#z": "did:x:y#z", "did:x:%41": "did:x:A",
	} {
		if got, err := Resolve(d, ref); Format(got) != want || err != api.OK {
			t.Errorf("Resolve(%q) = %+v, %d", ref, got, err)
		}
	}
	for ref, want := range map[string]api.Errno{
		"k": api.ErrForm, "Did:x:y": api.ErrForm, "https://a": api.ErrForm, " #k": api.ErrForm, ":b": api.ErrForm, "%23": api.ErrForm, strings.Repeat("k", api.MaxText+1): api.ErrForm,
		"did:": api.ErrForm, "did:x:": api.ErrEmpty, "did:X:y": api.ErrMethod, "#%": api.ErrPercent, "# ": api.ErrChar, "#" + strings.Repeat("k", api.MaxText): api.ErrLimit,
	} {
		if got, err := Resolve(d, ref); got != (api.DIDURL{}) || err != want {
			t.Errorf("Resolve(%.20q) = %+v, %d", ref, got, err)
		}
	}
	if got, err := Resolve(api.DID{Method: "W"}, "#k"); got != (api.DIDURL{}) || err != api.ErrMethod {
		t.Errorf("Resolve relative to no DID = %+v, %d", got, err)
	}
}

func TestConsequences(t *testing.T) {
	for rest := range sample.Texts(6, "a", ":", "%7e", "%41", "~", "/", "?", "#") {
		u, err := Parse("did:x:" + rest)
		d, errno := ParseDID("did:x:" + rest)
		if errno == api.OK && (err != api.OK || u != (api.DIDURL{DID: d})) {
			t.Errorf("the DID %q is not a DID URL: %+v, %d", rest, u, err)
		}
		if err != api.OK {
			continue
		}
		if again, err := Parse(Format(u)); again != u || err != api.OK {
			t.Errorf("Parse(Format(%+v)) = %+v, %d", u, again, err)
		}
	}
}
