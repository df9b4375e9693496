package binding

import (
	"reflect"
	"strconv"
	"strings"
	"testing"

	"webfinger/api"
	"webfinger/didfetch"
	"webfinger/finger"
	"webfinger/ident"
	"webfinger/percent"
	"webfinger/weburl"
	"webfinger/world"
)

func id(t *testing.T, s string) api.ID {
	t.Helper()
	parsed, err := ident.Parse(s)
	if err != api.OK {
		t.Fatalf("%q is no identifier: %d", s, err)
	}
	return parsed
}

// page is the answer of a host to a target.
func page(host, target, kind string, age int, body string) api.Answer {
	return api.Answer{Host: host, Target: target, Raw: "HTTP/1.1 200 OK\r\nContent-Type: " + kind + "\r\nCache-Control: max-age=" + strconv.Itoa(age) + "\r\n\r\n" + body}
}

// about is the JRD of a host about an identifier, with aliases.
func about(host, subject string, age int, aliases ...string) api.Answer {
	list := ""
	for _, alias := range aliases {
		list += `,"` + alias + `"`
	}
	return page(host, "/.well-known/webfinger?resource="+percent.Encode(subject, ""), "application/jrd+json", age, `{"subject":"`+subject+`","aliases":[`+strings.TrimPrefix(list, ",")+"]}")
}

const (
	bob     = "acct:bob@a.example"
	profile = "https://b.example/bob"
	did     = "did:web:d.example"
)

func document(age int, also string) api.Answer {
	return page("d.example", "/.well-known/did.json", "application/did+json", age, `{"id":"did:web:d.example","alsoKnownAs":[`+also+`]}`)
}

func hosts(v api.Verdict) string {
	var list []string
	for _, x := range v.Trace {
		list = append(list, x.URL.Host)
	}
	return strings.Join(list, " ")
}

func TestP30_1Forward(t *testing.T) {
	l := []api.Answer{about("a.example", bob, 9, profile), document(9, `"acct:bob@a.example"`)}
	for _, s := range []string{bob, profile, "mailto:bob@a.example", did} {
		got, err := Forward(l, 3, id(t, s))
		want, errno := finger.Lookup(l, 3, id(t, s))
		if s == did {
			want, errno = didfetch.Lookup(l, 3, id(t, s))
		}
		if !reflect.DeepEqual(got, want) || err != errno || len(got.Trace) == 0 {
			t.Errorf("Forward(%q) = %+v, %d", s, got, err)
		}
	}
	for _, x := range []api.ID{{}, {Kind: api.KindDID}, {Kind: 9, Text: bob}} {
		if got, err := Forward(l, 0, x); !reflect.DeepEqual(got, api.Finding{}) || err != api.ErrInvalid {
			t.Errorf("Forward(%+v) = %+v, %d", x, got, err)
		}
	}
}

type resolveCase struct {
	name    string
	l       []api.Answer
	s       string
	err     api.Errno
	profile string
	seconds uint64
	hosts   string
}

func checkResolve(t *testing.T, cases []resolveCase) {
	t.Helper()
	for _, c := range cases {
		got := Resolve(c.l, 0, c.s)
		want := api.Verdict{Err: c.err, ID: id(t, c.s), Fresh: api.Fresh{Store: c.seconds > 0, Seconds: c.seconds}, Trace: got.Trace}
		if c.profile != "" {
			want.Profile = id(t, c.profile)
		}
		if !reflect.DeepEqual(got, want) || hosts(got) != c.hosts {
			t.Errorf("%s: %+v", c.name, got)
		}
	}
}

func TestP30_2Resolve(t *testing.T) {
	forward := about("a.example", bob, 50, profile, "https://c.example/")
	back := about("b.example", profile, 40, "mailto:x@y", "ACCT:bob@A.example")
	other := about("c.example", "https://c.example/", 9, bob)
	checkResolve(t, []resolveCase{
		{"accepted", []api.Answer{forward, back}, bob, api.OK, profile, 40, "a.example b.example"},
		{"another spelling", []api.Answer{forward, back}, "ACCT:%62ob@A.example", api.OK, profile, 40, "a.example b.example"},
		{"the other way round", []api.Answer{forward, about("b.example", profile, 40, bob)}, profile, api.OK, bob, 40, "b.example a.example"},
		{"not fresh", []api.Answer{forward, about("b.example", profile, 0, bob)}, bob, api.OK, profile, 0, "a.example b.example"},
		{"no alias", []api.Answer{forward, about("b.example", profile, 40), other}, bob, api.ErrUnbound, profile, 0, "a.example b.example"},
		{"another alias", []api.Answer{forward, about("b.example", profile, 40, "acct:Bob@a.example")}, bob, api.ErrUnbound, profile, 0, "a.example b.example"},
		{"no profile", []api.Answer{about("a.example", bob, 50)}, bob, api.ErrNoProfile, "", 0, "a.example"},
		{"no first answer", []api.Answer{back}, bob, api.ErrConnect, "", 0, "a.example"},
		{"no second answer", []api.Answer{forward, other}, bob, api.ErrConnect, profile, 0, "a.example b.example"},
		{"a wrong first answer", []api.Answer{about("a.example", "acct:x@a.example", 9, profile), page("a.example", "/.well-known/webfinger?resource=acct%3Abob%40a.example", "text/html", 9, "")}, bob, api.ErrMedia, "", 0, "a.example"},
		{"to a DID", []api.Answer{about("a.example", bob, 50, did), document(30, `"x","acct:bob@a.example"`)}, bob, api.OK, did, 30, "a.example d.example"},
		{"from a DID", []api.Answer{about("a.example", bob, 50, did), document(30, `"x","acct:bob@a.example"`)}, did, api.OK, bob, 30, "d.example a.example"},
		{"from a DID that is not named", []api.Answer{forward, document(30, `"acct:bob@a.example"`)}, did, api.ErrUnbound, bob, 0, "d.example a.example"},
		{"another DID document", []api.Answer{page("d.example", "/.well-known/did.json", "application/did+json", 9, `{"id":"did:web:x"}`)}, did, api.ErrDocument, "", 0, "d.example"},
	})
}

func TestP30_2ResolveOfNoIdentifier(t *testing.T) {
	for s, want := range map[string]api.Errno{"": api.ErrScheme, "bob@a.example": api.ErrScheme, "acct:bob": api.ErrForm, "did:x:y": api.ErrMethod, strings.Repeat("x", 5000): api.ErrLimit} {
		if got := Resolve(nil, 0, s); !reflect.DeepEqual(got, api.Verdict{Err: want}) {
			t.Errorf("Resolve(%.30q) = %+v", s, got)
		}
	}
	long := "https://a/" + strings.Repeat("x", 4080)
	if got := Resolve(nil, 0, long); got.Err != api.ErrLimit || got.ID.Text != long || got.Trace != nil {
		t.Errorf("Resolve of a long identifier = %d", got.Err)
	}
}

func TestP30_2ResolveUsesTheTime(t *testing.T) {
	forward, back := about("a.example", bob, 50, profile), about("b.example", profile, 40, bob)
	back.From, back.Until = 10, 20
	for now, want := range map[uint64]api.Errno{9: api.ErrConnect, 10: api.OK, 19: api.OK, 20: api.ErrConnect} {
		if got := Resolve([]api.Answer{forward, back}, now, bob); got.Err != want {
			t.Errorf("Resolve at %d = %+v", now, got)
		}
	}
}

func TestConsequences(t *testing.T) {
	// Every lookup takes all its four fetches, with as many redirects as are permitted.
	var l []api.Answer
	for _, host := range []string{"a.example", "b.example"} {
		subject, alias := bob, profile
		if host == "b.example" {
			subject, alias = profile, bob
		}
		last := "/" + percent.Encode(subject, "")
		for target, end := range map[string]string{
			"/.well-known/webfinger?resource=" + percent.Encode(subject, ""): "HTTP/1.1 404 -\r\n\r\n", "/.well-known/host-meta.json": "HTTP/1.1 404 -\r\n\r\n", "/": "HTTP/1.1 200 -\r\nLink: <https://" + host + last + ">; rel=lrdd\r\n\r\n", last: about(host, subject, 9, alias).Raw,
		} {
			for i := range api.MaxHops {
				l = append(l, api.Answer{Host: host, Target: target, Raw: "HTTP/1.1 302 -\r\nLocation: https://" + host + "/" + strconv.Itoa(len(l)) + "x" + strconv.Itoa(i) + "\r\n\r\n"})
				target = "/" + strconv.Itoa(len(l)-1) + "x" + strconv.Itoa(i)
			}
			l = append(l, api.Answer{Host: host, Target: target, Raw: end})
		}
	}
	got := Resolve(l, 0, bob)
	if got.Err != api.OK || len(got.Trace) != 48 {
		t.Errorf("Resolve with 48 requests: %d, %d", got.Err, len(got.Trace))
	}
	noise := append([]api.Answer{{Host: "z.example", Target: "/"}, about("z.example", bob, 1, profile)}, l...)
	if again := Resolve(noise, 0, bob); !reflect.DeepEqual(again, got) {
		t.Error("the answers of another host matter")
	}
	if without := Resolve(world.Without(noise, api.HostPort{Host: "b.example"}), 0, bob); without.Err != api.ErrConnect || !strings.HasPrefix(weburl.Format(without.Trace[24].URL), "https://b.example/") {
		t.Errorf("Resolve without the second host = %+v", without.Err)
	}
}
