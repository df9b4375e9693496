package didfetch

import (
	"reflect"
	"strconv"
	"strings"
	"testing"

	"webfinger/api"
	"webfinger/ident"
	"webfinger/jsondoc"
)

func web(id string) api.DID { return api.DID{Method: "web", ID: id} }

func id(t *testing.T, s string) api.ID {
	t.Helper()
	parsed, err := ident.Parse(s)
	if err != api.OK {
		t.Fatalf("%q is no identifier: %d", s, err)
	}
	return parsed
}

func response(status int, kind, body string) api.Response {
	r := api.Response{Head: api.Head{Status: status}, Body: body}
	if kind != "" {
		r.Head.Fields = []api.Field{{Name: "content-type", Value: kind}}
	}
	return r
}

const document = `{"id":"did:web:A.example%3A8443:%75sers","alsoKnownAs":["acct:u@b.example"]}`

func TestP28_1Read(t *testing.T) {
	want, _, _ := jsondoc.Parse(document)
	for _, kind := range []string{"application/did+json", "application/did+ld+json", "Application/JSON;charset=UTF-8"} {
		for _, d := range []api.DID{web("a.example%3A8443:users"), web("a.example%3a8443:%75sers")} {
			if got, err := Read(response(200, kind, document), d); !reflect.DeepEqual(got, want) || err != api.OK {
				t.Errorf("Read(%q, %+v) = %+v, %d", kind, d, got, err)
			}
		}
	}
	d := web("a.example%3A8443:users")
	const kind = "application/did+json"
	for _, c := range []struct {
		r   api.Response
		d   api.DID
		err api.Errno
	}{
		{response(404, "", ""), d, api.ErrNotFound}, {response(410, kind, document), d, api.ErrNotFound}, {response(204, kind, document), d, api.ErrStatus}, {response(500, "", "?"), d, api.ErrStatus}, {response(0, "", ""), d, api.ErrStatus}, {response(301, kind, document), d, api.ErrStatus},
		{response(200, "", document), d, api.ErrMedia}, {response(200, "application/jrd+json", document), d, api.ErrMedia}, {response(200, "text/html", "?"), d, api.ErrMedia}, {response(200, "application/did+json;", document), d, api.ErrMedia}, {response(200, "application/did+json;charset=x", document), d, api.ErrMedia},
		{response(200, kind, ""), d, api.ErrSyntax}, {response(200, kind, document+"?"), d, api.ErrToken}, {response(200, kind, "{}"), d, api.ErrShape}, {response(200, kind, "[]"), d, api.ErrShape}, {response(200, kind, `{"id":"did:web:x","alsoKnownAs":[`+strings.Repeat("1,", 64)+`1]}`), d, api.ErrTooMany},
		{response(200, kind, document), web("a.example:users"), api.ErrDocument}, {response(200, kind, document), web("a.example%3A8443:Users"), api.ErrDocument}, {response(200, kind, `{"id":"did:x:y"}`), api.DID{Method: "x", ID: "y"}, api.ErrDocument}, {response(200, kind, document), api.DID{}, api.ErrDocument},
	} {
		if got, err := Read(c.r, c.d); !reflect.DeepEqual(got, api.Value{}) || err != c.err {
			t.Errorf("Read(%+v, %+v) = %+v, %d", c.r, c.d, got, err)
		}
	}
}

const started = "HTTP/1.1 200 OK\r\nContent-Type: application/did+json\r\nCache-Control: max-age=9\r\n\r\n"

var (
	page  = api.Answer{Host: "a.example", Port: 8443, Target: "/users/did.json", Raw: started + document}
	pageU = api.URL{Host: "a.example", Port: 8443, Path: "/users/did.json"}
	d     = web("a.example%3A8443:users")
)

func TestP28_2Document(t *testing.T) {
	want, _, _ := jsondoc.Parse(document)
	v, r, err := Document([]api.Answer{page}, 0, d)
	if !reflect.DeepEqual(v, want) || r.URL != pageU || r.Head.Status != 200 || r.Body != document || !reflect.DeepEqual(r.Trace, []api.Exchange{{URL: pageU, Status: 200}}) || err != api.OK {
		t.Errorf("Document = %+v, %+v, %d", v, r, err)
	}
	root := api.Answer{Host: "c", Target: "/.well-known/did.json", Raw: started + `{"id":"did:web:c"}`}
	if _, r, err := Document([]api.Answer{page, root}, 0, web("c")); err != api.OK || r.URL.Path != "/.well-known/did.json" {
		t.Errorf("Document of a host = %+v, %d", r, err)
	}
	moved := page
	moved.Raw = "HTTP/1.1 301 -\r\nLocation: //b/x\r\n\r\n"
	target := api.Answer{Host: "b", Target: "/x", Raw: started + document}
	if _, r, err := Document([]api.Answer{moved, target}, 0, d); err != api.OK || len(r.Trace) != 2 || r.URL.Host != "b" {
		t.Errorf("Document after a redirect = %+v, %d", r, err)
	}
}

func TestP28_2DocumentErrors(t *testing.T) {
	for d, want := range map[api.DID]api.Errno{{}: api.ErrMethod, web("a:.."): api.ErrSegment, web("a..b"): api.ErrHost} {
		if v, r, err := Document([]api.Answer{page}, 0, d); !reflect.DeepEqual(v, api.Value{}) || !reflect.DeepEqual(r, api.Response{}) || err != want {
			t.Errorf("Document(%+v) = %+v, %+v, %d", d, v, r, err)
		}
	}
	for raw, want := range map[string]struct {
		x   api.Exchange
		err api.Errno
	}{
		"":                           {api.Exchange{URL: pageU, Err: api.ErrTruncated}, api.ErrTruncated},
		"HTTP/1.1 404 -\r\n\r\n":     {api.Exchange{URL: pageU, Status: 404}, api.ErrNotFound},
		"HTTP/1.1 200 -\r\n\r\n":     {api.Exchange{URL: pageU, Status: 200}, api.ErrMedia},
		started + "{}":               {api.Exchange{URL: pageU, Status: 200}, api.ErrShape},
		started + `{"id":"did:x:y"}`: {api.Exchange{URL: pageU, Status: 200}, api.ErrDocument},
		"HTTP/1.1 301 -\r\nLocation: http://b/\r\n\r\n": {api.Exchange{URL: pageU, Status: 301}, api.ErrInsecure},
	} {
		wrong := page
		wrong.Raw = raw
		v, r, err := Document([]api.Answer{wrong}, 0, d)
		if !reflect.DeepEqual(v, api.Value{}) || !reflect.DeepEqual(r, api.Response{Trace: []api.Exchange{want.x}}) || err != want.err {
			t.Errorf("Document with %q = %+v, %+v, %d", raw, v, r, err)
		}
	}
}

func TestP28_3Names(t *testing.T) {
	doc := api.Doc{ID: "did:web:self", Also: []string{"https://b", "x", "did:web:self", "HTTPS://B/", "acct:c@d", ""}, Controllers: []string{"did:web:no"}}
	want := []api.ID{id(t, "https://b/"), id(t, "acct:c@d")}
	if got := Names(doc, id(t, "did:web:self")); !reflect.DeepEqual(got, want) {
		t.Errorf("Names = %+v", got)
	}
	var many api.Doc
	for i := range 99 {
		many.Also = append(many.Also, "acct:a"+strconv.Itoa(i)+"@b")
	}
	if got := Names(many, id(t, "acct:a3@b")); len(got) != api.MaxNames || got[63].Text != "acct:a64@b" {
		t.Errorf("Names of many: %d", len(got))
	}
	if got := Names(api.Doc{}, api.ID{}); got != nil {
		t.Errorf("Names of nothing = %+v", got)
	}
}

func TestP28_3Lookup(t *testing.T) {
	subject := id(t, "did:web:a.example%3A8443:users")
	trace := []api.Exchange{{URL: pageU, Status: 200}}
	got, err := Lookup([]api.Answer{page}, 0, subject)
	want := api.Finding{Subject: subject, Names: []api.ID{id(t, "acct:u@b.example")}, Fresh: api.Fresh{Store: true, Seconds: 9}, Trace: trace}
	if !reflect.DeepEqual(got, want) || err != api.OK {
		t.Errorf("Lookup = %+v, %d", got, err)
	}
	wrong := page
	wrong.Raw = started + `{"id":"did:web:other"}`
	if got, err := Lookup([]api.Answer{wrong}, 0, subject); !reflect.DeepEqual(got, api.Finding{Trace: trace}) || err != api.ErrDocument {
		t.Errorf("Lookup of another document = %+v, %d", got, err)
	}
	if got, err := Lookup(nil, 0, subject); len(got.Trace) != 1 || err != api.ErrConnect {
		t.Errorf("Lookup without an answer = %+v, %d", got, err)
	}
	changed := subject
	changed.Port = 0
	for _, x := range []api.ID{{}, changed, id(t, "https://a.example:8443/users/did.json"), id(t, "acct:a@b")} {
		if got, err := Lookup([]api.Answer{page}, 0, x); !reflect.DeepEqual(got, api.Finding{}) || err != api.ErrInvalid {
			t.Errorf("Lookup(%+v) = %+v, %d", x, got, err)
		}
	}
}

func TestConsequences(t *testing.T) {
	for _, s := range []string{"did:web:a", "did:web:a%3A8443", "did:web:a:b:c", "did:web:a%3A99:%7E"} {
		x := id(t, s)
		got, err := Lookup(nil, 7, x)
		if err != api.ErrConnect || len(got.Trace) != 1 || got.Trace[0].URL.Host != x.Host || got.Trace[0].URL.Port != x.Port {
			t.Errorf("Lookup(%q) = %+v, %d", s, got, err)
		}
	}
}
