package witness

import (
	"reflect"
	"slices"
	"strconv"
	"strings"
	"testing"

	"webfinger/api"
	"webfinger/binding"
	"webfinger/ident"
	"webfinger/percent"
	"webfinger/weburl"
	"webfinger/world"
)

func id(t *testing.T, s string) api.ID {
	t.Helper()
	parsed, err := ident.Parse(s)
	if err != api.OK {
		t.Fatalf("%q is no identifier: %d", s, err)
	}
	return parsed
}

func exchange(t *testing.T, at string, status int) api.Exchange {
	t.Helper()
	u, err := weburl.Parse(at)
	if err != api.OK {
		t.Fatalf("%q is no URL: %d", at, err)
	}
	return api.Exchange{URL: u, Status: status}
}

// page is what is at a URL.
func page(t *testing.T, at, raw string) api.Answer {
	u := exchange(t, at, 0).URL
	return api.Answer{Host: u.Host, Port: u.Port, Target: weburl.Target(u), Raw: raw}
}

const (
	jrdType = "HTTP/1.1 200 OK\r\nContent-Type: application/jrd+json\r\nCache-Control: max-age=9\r\n"
	didType = "HTTP/1.1 200 OK\r\nContent-Type: application/did+json\r\n\r\n"
	bob     = "acct:bob@a.example"
	profile = "https://b.example/bob"
	webDID  = "did:web:d.example"
)

func query(host, subject string) string {
	return "https://" + host + "/.well-known/webfinger?resource=" + percent.Encode(subject, "")
}

func about(subject string, aliases ...string) string {
	return jrdType + "\r\n" + `{"subject":"` + subject + `","aliases":["` + strings.Join(aliases, `","`) + `"]}`
}

func moved(to string) string { return "HTTP/1.1 302 -\r\nLocation: " + to + "\r\n\r\n" }

func TestP33_1Chains(t *testing.T) {
	x := func(statuses ...int) []api.Exchange {
		var l []api.Exchange
		for _, status := range statuses {
			l = append(l, api.Exchange{Status: status})
		}
		return l
	}
	for _, c := range []struct {
		l    []api.Exchange
		want [][]api.Exchange
	}{
		{nil, nil}, {x(200), [][]api.Exchange{x(200)}}, {x(302), [][]api.Exchange{x(302)}}, {x(0, 404), [][]api.Exchange{x(0), x(404)}}, {x(301, 302, 200, 303, 500, 307, 308), [][]api.Exchange{x(301, 302, 200), x(303, 500), x(307, 308)}}, {x(300, 304, 305), [][]api.Exchange{x(300), x(304), x(305)}},
	} {
		got := Chains(c.l)
		if !reflect.DeepEqual(got, c.want) {
			t.Errorf("Chains(%+v) = %+v", c.l, got)
		}
		for i := range got {
			_ = append(got[i], api.Exchange{Status: 9})
			got[i][0].Status = 7
		}
		if slices.ContainsFunc(c.l, func(x api.Exchange) bool { return x.Status == 7 || x.Status == 9 }) {
			t.Error("Chains shares memory with its argument")
		}
	}
}

func TestP33_2Delegates(t *testing.T) {
	const at = "https://a.example/x/y"
	link := "Link: <l>; rel=lrdd\r\n\r\n"
	all := `{"id":"did:web:q.example","alsoKnownAs":["https://k.example:8443/","acct:bob@a.example","x","https://k.example/"],"subject":"acct:s@s.example","aliases":["mailto:m@m.example","acct:bob@a.example"],"links":[` +
		`{"rel":"self","href":"https://h.example:99"},{"rel":"lrdd","template":"https://t.example:8443/{uri}"},{"rel":"lrdd","template":"http://no.example/{uri}"},{"rel":"lrdd"},{"rel":"lrdd","template":"https://no.example/"},{"rel":"lrdd","template":"https://{uri}/"},{"rel":"LRDD","template":"https://no.example/{uri}"},{"rel":"lrdd","template":"https://u.example/{uri}"}]}`
	const fromJRD, fromDID = "t.example:8443 u.example h.example:99 s.example m.example", "k.example:8443 k.example"
	for raw, want := range map[string]string{
		"": "", "x": "", "HTTP/1.1 200 OK\r\nContent-Length: 9\r\n" + link: "", "HTTP/1.1 200 OK\r\nTransfer-Encoding: x\r\nLink: <l>; rel=lrdd\r\n\r\n" + all: "",
		moved("https://r.example:8443/x#f"): "r.example:8443", moved("z"): "a.example", moved("y"): "a.example", moved("http://r.example/"): "", "HTTP/1.1 302 -\r\nContent-Length: 9\r\nLocation: //r.example\r\nLink: <//l.example>; rel=lrdd\r\n\r\n": "r.example", "HTTP/1.1 301 -\r\n" + link + all: "",
		"HTTP/1.1 200 OK\r\n\r\n" + all: fromJRD + " " + fromDID, "HTTP/1.1 500 -\r\n" + link + all: fromJRD + " " + fromDID + " a.example", "HTTP/1.1 200 OK\r\n" + link: "a.example", "HTTP/1.1 404 -\r\nLink: <//L.example:443/>; rel=\"x lrdd\"\r\n\r\n{": "l.example",
		"HTTP/1.1 200 OK\r\nLink: <l>; rel=x\r\n\r\n": "", "HTTP/1.1 200 OK\r\nLink: l; rel=lrdd\r\n\r\n": "", "HTTP/1.1 200 OK\r\nLink: <http://l>; rel=lrdd\r\n\r\n": "", "HTTP/1.1 200 OK\r\n\r\n[]": "", "HTTP/1.1 200 OK\r\n\r\n{}": "",
		"HTTP/1.1 200 OK\r\n\r\n" + strings.Replace(all, `"acct:s@s.example"`, "1", 1): fromDID, "HTTP/1.1 200 OK\r\n\r\n" + strings.Replace(all, `"did:web:q.example"`, `"x"`, 1): fromJRD, "HTTP/1.1 204 -\r\n\r\n" + all: "",
	} {
		var got []string
		for _, h := range Delegates([]api.Answer{page(t, at, raw)}, 0, id(t, bob), exchange(t, at, 77)) {
			text := h.Host
			if h.Port != 0 {
				text += ":" + strconv.Itoa(h.Port)
			}
			got = append(got, text)
		}
		if strings.Join(got, " ") != want || (want == "") != (got == nil) {
			t.Errorf("Delegates of %.200q = %q", raw, got)
		}
	}
	for _, x := range []api.Exchange{{}, exchange(t, "https://other/", 200)} {
		if got := Delegates([]api.Answer{page(t, at, about(bob, profile))}, 0, id(t, bob), x); got != nil {
			t.Errorf("Delegates(%+v) = %+v", x, got)
		}
	}
}

// site is a world in which bob and his profile, and bob and a DID, name each other.
func site(t *testing.T) []api.Answer {
	return []api.Answer{
		page(t, query("a.example", bob), moved("https://c.example/bob")), page(t, "https://c.example/bob", about(bob, profile, webDID)), page(t, query("b.example", profile), about(profile, bob)),
		page(t, query("b.example", profile+"2"), about(profile+"2", webDID)), page(t, "https://d.example/.well-known/did.json", didType+`{"id":"did:web:d.example","alsoKnownAs":["https://b.example/bob2","acct:bob@a.example"]}`),
		page(t, "https://z.example/", about(bob, profile)),
	}
}

func accepted(t *testing.T, l []api.Answer, s string) api.Verdict {
	t.Helper()
	v := binding.Resolve(l, 0, s)
	if v.Err != api.OK {
		t.Fatalf("%q: %+v", s, v)
	}
	return v
}

func TestP33_3Allowed(t *testing.T) {
	l := site(t)
	v := accepted(t, l, bob)
	if !Allowed(l, 0, v) || !Allowed(l, 0, api.Verdict{}) || !Allowed(l, 0, api.Verdict{Err: 9, ID: v.ID, Trace: v.Trace[:2]}) {
		t.Error("a trace is not allowed")
	}
	for name, trace := range map[string][]api.Exchange{
		"another host first": {v.Trace[1]}, "the profile first": {v.Trace[2], v.Trace[0]}, "the target of a redirect before it": {v.Trace[1], v.Trace[0]}, "a host that nobody names": {v.Trace[0], exchange(t, "https://z.example/", 200)}, "another port": {exchange(t, "https://a.example:8443/", 0)}, "the profile before its name": {v.Trace[0], v.Trace[2]},
	} {
		if Allowed(l, 0, api.Verdict{ID: v.ID, Profile: v.Profile, Trace: trace}) {
			t.Errorf("%s is allowed", name)
		}
	}
	if Allowed(nil, 0, v) || !Allowed(nil, 0, api.Verdict{ID: v.ID, Trace: v.Trace[:1]}) {
		t.Error("Allowed in the empty world")
	}
	// A template leads to another host for the profile than for the identifier.
	templates := []api.Answer{page(t, "https://a.example/", jrdType+"\r\n"+`{"links":[{"rel":"lrdd","template":"https://{uri}.example/"}]}`)}
	for _, profile := range []string{"", "x"} {
		w := api.Verdict{ID: v.ID, Profile: api.ID{Text: profile}, Trace: []api.Exchange{exchange(t, "https://a.example/", 200), exchange(t, "https://x.example/", 200)}}
		if Allowed(templates, 0, w) != (profile == "x") {
			t.Errorf("Allowed with the profile %q", profile)
		}
	}
}

func TestP33_4Proves(t *testing.T) {
	l := site(t)
	for _, s := range []string{bob, profile, webDID, profile + "2"} {
		v := accepted(t, l, s)
		if err := Proves(l, 0, v); err != api.OK {
			t.Errorf("Proves(%q) = %d", s, err)
		}
		more := v
		more.Trace = append(slices.Clone(v.Trace), v.Trace...)
		if err := Proves(l, 0, more); err != api.OK {
			t.Errorf("Proves(%q) with its trace twice = %d", s, err)
		}
	}
}

func TestP33_4ProvesErrors(t *testing.T) {
	l := site(t)
	good := accepted(t, l, bob)
	for name, c := range map[string]struct {
		change func(*api.Verdict)
		err    api.Errno
	}{
		"an error":               {func(v *api.Verdict) { v.Err = api.ErrUnbound }, api.ErrInvalid},
		"no identifier":          {func(v *api.Verdict) { v.ID = api.ID{} }, api.ErrInvalid},
		"a wrong identifier":     {func(v *api.Verdict) { v.ID.Host = "c.example" }, api.ErrInvalid},
		"no profile":             {func(v *api.Verdict) { v.Profile = api.ID{} }, api.ErrInvalid},
		"an empty trace":         {func(v *api.Verdict) { v.Trace = nil }, api.ErrWitness},
		"another identifier":     {func(v *api.Verdict) { v.ID = id(t, "acct:eve@a.example") }, api.ErrWitness},
		"another profile":        {func(v *api.Verdict) { v.Profile = id(t, webDID) }, api.ErrWitness},
		"the same profile":       {func(v *api.Verdict) { v.Profile = v.ID }, api.ErrWitness},
		"another status":         {func(v *api.Verdict) { v.Trace[0].Status = 301 }, api.ErrWitness},
		"another error":          {func(v *api.Verdict) { v.Trace[2].Err = api.ErrFraming }, api.ErrWitness},
		"a failure that is none": {func(v *api.Verdict) { v.Trace[1].Status = 0 }, api.ErrWitness},
		"no second document":     {func(v *api.Verdict) { v.Trace = v.Trace[:2] }, api.ErrWitness},
		"no first document":      {func(v *api.Verdict) { v.Trace = v.Trace[2:] }, api.ErrWitness},
		"a host that none names": {func(v *api.Verdict) { v.Trace = append(v.Trace, exchange(t, "https://z.example/", 200)) }, api.ErrWitness},
		"an answer that is none": {func(v *api.Verdict) { v.Trace = append(v.Trace, exchange(t, "https://a.example/", 200)) }, api.ErrWitness},
		"a failure that is one": {func(v *api.Verdict) {
			x := exchange(t, "https://a.example/", 0)
			x.Err = api.ErrConnect
			v.Trace = append(v.Trace, x)
		}, api.OK},
		"another failure": {func(v *api.Verdict) {
			x := exchange(t, "https://a.example/", 0)
			x.Err = api.ErrDNS
			v.Trace = append(v.Trace, x)
		}, api.ErrWitness},
		"other Fresh than it had": {func(v *api.Verdict) { v.Fresh = api.Fresh{} }, api.OK},
		"the wrong order": {func(v *api.Verdict) {
			v.Trace = []api.Exchange{v.Trace[0], v.Trace[1], v.Trace[2]}
			v.ID, v.Profile = v.Profile, v.ID
		}, api.ErrWitness},
		"a document in a chain": {func(v *api.Verdict) { v.Trace = append([]api.Exchange{v.Trace[0]}, v.Trace[2]) }, api.ErrWitness},
	} {
		v := good
		v.Trace = slices.Clone(good.Trace)
		c.change(&v)
		if err := Proves(l, 0, v); err != c.err {
			t.Errorf("%s: %d", name, err)
		}
	}
}

func TestP33_4ProvesWantsTheOrder(t *testing.T) {
	// One host for both, so that every order is allowed.
	profile := "acct:eve@a.example"
	first, second := query("a.example", bob), query("a.example", profile)
	linked := func(subject, to string) string {
		return jrdType + "\r\n" + `{"subject":"` + subject + `","links":[{"rel":"self","href":"` + to + `"}]}`
	}
	l := []api.Answer{page(t, first, linked(bob, profile)), page(t, second, linked(profile, bob)), page(t, "https://a.example/both", jrdType+"\r\n"+`{"aliases":["acct:bob@a.example","acct:eve@a.example"]}`)}
	v := accepted(t, l, bob)
	for want, trace := range map[api.Errno][]api.Exchange{
		api.OK:         {exchange(t, second, 200), exchange(t, first, 200), exchange(t, second, 200)},
		api.ErrWitness: {exchange(t, second, 200), exchange(t, first, 200)},
	} {
		v.Trace = trace
		if err := Proves(l, 0, v); err != want {
			t.Errorf("Proves with %d exchanges = %d", len(trace), err)
		}
	}
	both := exchange(t, "https://a.example/both", 200)
	for count, want := range map[int]api.Errno{1: api.ErrWitness, 2: api.OK} {
		v.Trace = slices.Repeat([]api.Exchange{both}, count)
		if err := Proves(l, 0, v); err != want {
			t.Errorf("Proves with a document about both %d times = %d", count, err)
		}
	}
}

func TestP33_4ProvesTrueFailures(t *testing.T) {
	const at = "https://a.example/x"
	for raw, want := range map[string]api.Exchange{
		"HTTP/1.1 200":         {Err: api.ErrTruncated},
		"HTTP/1.1 2 -\r\n\r\n": {Err: api.ErrHead},
		"HTTP/1.1 200 -\r\nContent-Length: 1\r\n\r\n":                 {Status: 200, Err: api.ErrTruncated},
		"HTTP/1.1 302 -\r\nContent-Length: 1\r\n\r\n":                 {Status: 302},
		"HTTP/1.1 404 -\r\n\r\n" + strings.Repeat("x", api.MaxBody):   {Status: 404},
		"HTTP/1.1 404 -\r\n\r\n" + strings.Repeat("x", api.MaxBody+1): {Status: 404, Err: api.ErrTooLarge},
	} {
		l := append(site(t), page(t, at, raw))
		v := accepted(t, l, bob)
		for status := range 600 {
			for _, err := range []api.Errno{api.OK, want.Err, api.ErrConnect} {
				if status%100 > 4 {
					continue
				}
				w := v
				w.Trace = append(slices.Clone(v.Trace), exchange(t, at, status))
				w.Trace[3].Err = err
				if isTrue := status == want.Status && err == want.Err; (Proves(l, 0, w) == api.OK) != isTrue {
					t.Errorf("%.60q with the status %d and the error %d: %d", raw, status, err, Proves(l, 0, w))
				}
			}
		}
	}
}

func TestP33_4ProvesCutOffAndLaterBodies(t *testing.T) {
	l := site(t)
	v := accepted(t, l, bob)
	cut := slices.Clone(l)
	cut[2].Raw = strings.Replace(cut[2].Raw, "\r\n\r\n", "\r\nContent-Length: 9999\r\n\r\n", 1)
	if err := Proves(cut, 0, v); err != api.ErrWitness {
		t.Errorf("Proves with a cut off body = %d", err)
	}
	w := v
	w.Trace = slices.Clone(v.Trace)
	w.Trace[2].Err = api.ErrTruncated
	if err := Proves(cut, 0, w); err != api.ErrWitness {
		t.Errorf("Proves with a true exchange without a document = %d", err)
	}
	late := slices.Clone(l)
	late[1].From = 5
	if Proves(late, 4, v) != api.ErrWitness || Proves(late, 5, v) != api.OK {
		t.Error("Proves does not look at the time")
	}
}

func TestConsequences(t *testing.T) {
	l := site(t)
	for _, s := range []string{bob, profile, webDID, profile + "2"} {
		v := accepted(t, l, s)
		for _, a := range l {
			h := api.HostPort{Host: a.Host, Port: a.Port}
			isInTrace := slices.ContainsFunc(v.Trace, func(x api.Exchange) bool { return weburl.Origin(x.URL) == h })
			if err := Proves(world.Without(l, h), 0, v); (err == api.OK) == isInTrace {
				t.Errorf("Proves(%q) without %+v = %d", s, h, err)
			}
		}
	}
	// Lookups by host metadata and by a link are proved, too.
	const missing = "HTTP/1.1 404 -\r\n\r\n"
	for _, last := range [][]api.Answer{
		{page(t, "https://a.example/.well-known/host-meta.json", jrdType+"\r\n"+`{"links":[{"rel":"lrdd","template":"https://t.example/{uri}"}]}`), page(t, "https://t.example/"+percent.Encode(bob, ""), about(bob, profile))},
		{page(t, "https://a.example/.well-known/host-meta.json", missing), page(t, "https://a.example/", "HTTP/1.1 200 -\r\nLink: <//t.example/bob>; rel=lrdd\r\n\r\n"), page(t, "https://t.example/bob", about(bob, profile))},
	} {
		l := append([]api.Answer{page(t, query("a.example", bob), missing), page(t, query("b.example", profile), about(profile, bob))}, last...)
		if v := accepted(t, l, bob); Proves(l, 0, v) != api.OK || v.Trace[len(v.Trace)-2].URL.Host != "t.example" {
			t.Errorf("Proves(%+v) = %d", v, Proves(l, 0, v))
		}
	}
}
