package world

import (
	"math"
	"slices"
	"strings"
	"testing"

	"webfinger/api"
	"webfinger/weburl"
)

func url(t *testing.T, s string) api.URL {
	t.Helper()
	u, err := weburl.Parse(s)
	if err != api.OK {
		t.Fatalf("%q is no URL: %d", s, err)
	}
	return u
}

func TestP24_1Valid(t *testing.T) {
	good := api.Answer{Host: "a.example", Port: 8443, Target: "/x", Fail: api.FailTimeout, From: 9, Until: 3}
	if !Valid(nil) || !Valid([]api.Answer{good, good, {Host: "a", Target: "/"}, {Host: "1.2.3.4", Port: 1, Target: "//"}}) {
		t.Error("a world is not valid")
	}
	for name, change := range map[string]func(*api.Answer){
		"no host": func(a *api.Answer) { a.Host = "" }, "capital": func(a *api.Answer) { a.Host = "A" }, "two dots": func(a *api.Answer) { a.Host = "a..b" }, "port in the host": func(a *api.Answer) { a.Host, a.Port = "a:80", 0 }, "default port": func(a *api.Answer) { a.Port = 443 }, "negative port": func(a *api.Answer) { a.Port = -1 }, "great port": func(a *api.Answer) { a.Port = 65536 }, "least port": func(a *api.Answer) { a.Port = math.MinInt },
		"no target": func(a *api.Answer) { a.Target = "" }, "relative target": func(a *api.Answer) { a.Target = "x/" }, "negative fail": func(a *api.Answer) { a.Fail = -1 }, "great fail": func(a *api.Answer) { a.Fail = 5 },
	} {
		wrong := good
		if change(&wrong); Valid([]api.Answer{good, wrong}) {
			t.Errorf("%s: valid", name)
		}
	}
	if full := slices.Repeat([]api.Answer{good}, api.MaxAnswers); !Valid(full) || Valid(append(full, good)) {
		t.Error("Valid at the limit")
	}
}

func TestP24_2AskFits(t *testing.T) {
	l := []api.Answer{
		{Host: "a", Target: "/x", Raw: "late", From: 10, Until: 20}, {Host: "a", Target: "/x", Raw: "early", Until: 10}, {Host: "a", Target: "/x", Raw: "never", From: 30, Until: 30}, {Host: "a", Target: "/x", Raw: "last", From: 15}, {Host: "a", Target: "/x", Raw: "hidden"},
		{Host: "a", Port: 8443, Target: "/x", Raw: "port"}, {Host: "a", Target: "/x?q", Raw: "query"}, {Host: "b", Target: "/x", Raw: "host", Fail: 99},
	}
	for _, c := range []struct {
		u    string
		now  uint64
		want string
	}{
		{"https://a/x", 0, "early"}, {"https://a/x", 9, "early"}, {"https://a/x", 10, "late"}, {"https://a/x", 19, "late"}, {"https://a/x", 20, "last"}, {"https://a/x", 30, "last"}, {"https://a/x", math.MaxUint64, "last"}, {"https://a:8443/x", 5, "port"}, {"https://a/x?q", 5, "query"}, {"https://a/x?q#f", 5, "query"}, {"https://b/x", 5, "host"},
	} {
		if got, err := Ask(l, url(t, c.u), c.now); got != c.want || err != api.OK {
			t.Errorf("Ask(%q, %d) = %q, %d", c.u, c.now, got, err)
		}
	}
	one := []api.Answer{{Host: "a", Target: "/", Raw: "r", From: 10, Until: 20}}
	for now, want := range map[uint64]api.Errno{9: api.ErrConnect, 10: api.OK, 19: api.OK, 20: api.ErrConnect} {
		if _, err := Ask(one, url(t, "https://a/"), now); err != want {
			t.Errorf("Ask at %d = %d", now, err)
		}
	}
}

func TestP24_2AskErrors(t *testing.T) {
	l := []api.Answer{{Host: "A", Target: "/", Raw: "r"}, {Host: "a", Target: "", Raw: "r"}, {Host: "a", Port: 443, Target: "/", Raw: "r"}, {Host: "a", Target: "/?", Raw: "r"}, {Host: "a", Target: "/#", Raw: "r"}}
	for _, u := range []api.URL{{}, {Host: "A", Path: "/"}, {Host: "a"}, {Host: "a", Port: 443, Path: "/"}} {
		if got, err := Ask(l, u, 0); got != "" || err != api.ErrInvalid {
			t.Errorf("Ask(%+v) = %q, %d", u, got, err)
		}
	}
	if got, err := Ask(l, url(t, "https://a/"), 0); got != "" || err != api.ErrConnect {
		t.Errorf("Ask = %q, %d", got, err)
	}
	if got, err := Ask(nil, url(t, "https://a/"), 0); got != "" || err != api.ErrConnect {
		t.Errorf("Ask in the empty world = %q, %d", got, err)
	}
	for fail, want := range map[int]api.Errno{api.FailDNS: api.ErrDNS, api.FailConnect: api.ErrConnect, api.FailTLS: api.ErrTLS, api.FailTimeout: api.ErrTimeout, 5: api.OK, -1: api.OK, api.FailNone: api.OK} {
		got, err := Ask([]api.Answer{{Host: "a", Target: "/", Raw: "r", Fail: fail}, {Host: "a", Target: "/", Raw: "other"}}, url(t, "https://a/"), 0)
		if err != want || (got == "r") != (err == api.OK) || got == "other" {
			t.Errorf("Ask with the failure %d = %q, %d", fail, got, err)
		}
	}
}

func TestP24_3Request(t *testing.T) {
	u := api.URL{Host: "a.example", Port: 8443, Path: "/x", Query: "q", HasQuery: true, Fragment: "f", HasFrag: true}
	if got := Request(u, "application/json"); got != "GET /x?q HTTP/1.1\r\nHost: a.example:8443\r\nAccept: application/json\r\nConnection: close\r\n\r\n" {
		t.Errorf("Request = %q", got)
	}
	if got := Request(api.URL{}, ""); got != "GET  HTTP/1.1\r\nHost: \r\nAccept: \r\nConnection: close\r\n\r\n" {
		t.Errorf("Request = %q", got)
	}
}

func TestP24_4Without(t *testing.T) {
	l := []api.Answer{{Host: "a", Target: "1"}, {Host: "b", Target: "2"}, {Host: "a", Port: 1, Target: "3"}, {Host: "a", Target: "4"}, {Host: "A", Target: "5"}}
	want := []api.Answer{l[1], l[2], l[4]}
	got := Without(l, api.HostPort{Host: "a"})
	if !slices.Equal(got, want) {
		t.Errorf("Without = %+v", got)
	}
	all := Without(l, api.HostPort{Host: "c"})
	if !slices.Equal(all, l) {
		t.Errorf("Without = %+v", all)
	}
	all[0].Raw = "changed"
	if l[0].Raw != "" || len(Without(nil, api.HostPort{})) != 0 || len(Without(l[:1], api.HostPort{Host: "a"})) != 0 {
		t.Error("Without")
	}
}

func TestConsequences(t *testing.T) {
	var l []api.Answer
	hosts := []string{"a", "b", "c"}
	for i := range 60 {
		l = append(l, api.Answer{Host: hosts[i*7%3], Port: i * 5 % 2, Target: "/" + strings.Repeat("x", i%4), Raw: strings.Repeat("r", i), From: uint64(i % 9), Until: uint64(i % 7 * 3), Fail: i % 5})
	}
	for _, h := range hosts {
		for _, target := range []string{"/", "/x", "/xx", "/xxx", "/y"} {
			for now := range uint64(20) {
				u := url(t, "https://"+h+target)
				raw, err := Ask(l, u, now)
				for _, other := range []api.HostPort{{Host: "a"}, {Host: "b"}, {Host: h, Port: 1}, {Host: "c"}} {
					if other == weburl.Origin(u) {
						continue
					}
					if got, errno := Ask(Without(l, other), u, now); got != raw || errno != err {
						t.Errorf("without %+v, %q at %d gives %q, %d", other, target, now, got, errno)
					}
				}
			}
		}
	}
}
