package fetch

import (
	"reflect"
	"slices"
	"strconv"
	"strings"
	"testing"

	"webfinger/api"
	"webfinger/weburl"
	"webfinger/world"
)

func url(t *testing.T, s string) api.URL {
	t.Helper()
	u, err := weburl.Parse(s)
	if err != api.OK {
		t.Fatalf("%q is no URL: %d", s, err)
	}
	return u
}

// answer returns what is at a URL.
func answer(t *testing.T, at, raw string) api.Answer {
	u := url(t, at)
	return api.Answer{Host: u.Host, Port: u.Port, Target: weburl.Target(u), Raw: raw}
}

func redirectTo(location string) string {
	return "HTTP/1.1 302 Found\r\nLocation: " + location + "\r\n\r\n"
}

func TestP26_1Start(t *testing.T) {
	u := url(t, "https://a/b?q#f")
	want := u
	want.Fragment, want.HasFrag = "", false
	if got := Start(u); !reflect.DeepEqual(got, api.Fetch{Next: want, Seen: []api.URL{want}}) {
		t.Errorf("Start = %+v", got)
	}
	for _, u := range []api.URL{{}, {Host: "A", Path: "/"}, {Host: "a", Path: "/", Fragment: "f"}} {
		if got := Start(u); !reflect.DeepEqual(got, api.Fetch{Done: true, Err: api.ErrInvalid}) {
			t.Errorf("Start(%+v) = %+v", u, got)
		}
	}
}

func TestP26_2Step(t *testing.T) {
	a, b := url(t, "https://a/"), url(t, "https://b/x")
	old := api.Exchange{Status: 7}
	before := api.Fetch{Next: a, Hops: 2, Seen: []api.URL{b, a}, Final: api.Response{Trace: []api.Exchange{old}, Body: "old", URL: b, Head: api.Head{Status: 5}}}
	ended := func(status int, err, end api.Errno) api.Fetch {
		return api.Fetch{Next: a, Hops: 2, Seen: []api.URL{b, a}, Done: true, Err: end, Final: api.Response{Trace: []api.Exchange{old, {URL: a, Status: status, Err: err}}}}
	}
	followed := api.Fetch{Next: url(t, "https://a/y"), Hops: 3, Seen: []api.URL{b, a, url(t, "https://a/y")}, Final: api.Response{Trace: []api.Exchange{old, {URL: a, Status: 307}}}}
	done := ended(404, api.OK, api.OK)
	done.Final.URL, done.Final.Head, done.Final.Body = a, api.Head{Minor: 1, Status: 404, Fields: []api.Field{{Name: "content-length", Value: "3"}}}, "abc"
	for raw, want := range map[string]api.Fetch{
		"":                            ended(0, api.ErrTruncated, api.ErrTruncated),
		"HTTP/1.1 200 -\r\nx\r\n\r\n": ended(0, api.ErrHead, api.ErrHead),
		strings.Repeat("x", 20000):    ended(0, api.ErrTooLarge, api.ErrTooLarge),
		"HTTP/1.1 301 Moved\r\n\r\nx": ended(301, api.OK, api.ErrLocation),
		redirectTo("http://a/"):       ended(302, api.OK, api.ErrInsecure),
		redirectTo("//B/x#f"):         ended(302, api.OK, api.ErrLoop),
		redirectTo("/"):               ended(302, api.OK, api.ErrLoop),
		"HTTP/1.1 307 -\r\nLocation: /y#f\r\nContent-Length: x\r\n\r\n": followed,
		"HTTP/1.1 200 -\r\nContent-Length: x\r\n\r\n":                   ended(200, api.ErrFraming, api.ErrFraming),
		"HTTP/1.1 500 -\r\nContent-Length: 4\r\n\r\nabc":                ended(500, api.ErrTruncated, api.ErrTruncated),
		"HTTP/1.1 200 -\r\n\r\n" + strings.Repeat("x", api.MaxBody+1):   ended(200, api.ErrTooLarge, api.ErrTooLarge),
		"HTTP/1.1 404 -\r\nContent-Length: 3\r\n\r\nabcd":               done,
	} {
		l := []api.Answer{answer(t, "https://a/", raw)}
		given := before
		given.Seen, given.Final.Trace = append(slices.Grow([]api.URL{}, 9), before.Seen...), append(slices.Grow([]api.Exchange{}, 9), before.Final.Trace...)
		if got := Step(l, 0, given); !reflect.DeepEqual(got, want) {
			t.Errorf("Step with %.60q = %.300v", raw, got)
		}
		if !reflect.DeepEqual(given, before) || given.Seen[:3][2] != (api.URL{}) || given.Final.Trace[:2][1] != (api.Exchange{}) {
			t.Errorf("Step with %.60q changes its argument", raw)
		}
	}
	if got := Step(nil, 0, before); !reflect.DeepEqual(got, ended(0, api.ErrConnect, api.ErrConnect)) {
		t.Errorf("Step without an answer = %+v", got)
	}
	slow := answer(t, "https://a/", "")
	slow.Fail = api.FailTimeout
	if got := Step([]api.Answer{slow}, 0, before); !reflect.DeepEqual(got, ended(0, api.ErrTimeout, api.ErrTimeout)) {
		t.Errorf("Step with a timeout = %+v", got)
	}
	if got := Step(nil, 0, api.Fetch{}); got.Err != api.ErrInvalid || !got.Done || len(got.Final.Trace) != 1 {
		t.Errorf("Step from the zero state = %+v", got)
	}
	if got := Step([]api.Answer{answer(t, "https://a/", redirectTo("/y"))}, 0, api.Fetch{Next: a, Hops: 5}); got.Err != api.ErrTooManyRedirects || !got.Done {
		t.Errorf("Step after MaxHops redirects = %+v", got)
	}
}

func TestP26_2StepOfADoneState(t *testing.T) {
	f := api.Fetch{Done: true, Err: 99, Hops: -1, Seen: []api.URL{{Host: "x"}}, Final: api.Response{Body: "b", Head: api.Head{Fields: []api.Field{{Name: "n"}}}, Trace: []api.Exchange{{Status: 1}}}}
	got := Step(nil, 0, f)
	if !reflect.DeepEqual(got, f) {
		t.Errorf("Step = %+v", got)
	}
	got.Seen[0].Host, got.Final.Head.Fields[0].Name, got.Final.Trace[0].Status = "y", "m", 2
	if f.Seen[0].Host != "x" || f.Final.Head.Fields[0].Name != "n" || f.Final.Trace[0].Status != 1 {
		t.Error("Step shares memory with its argument")
	}
}

func TestP26_3Run(t *testing.T) {
	const ok = "HTTP/1.1 200 OK\r\nContent-Length: 2\r\n\r\nhi"
	l := []api.Answer{answer(t, "https://a/", redirectTo("//b/x#f")), answer(t, "https://b/x", redirectTo("y")), answer(t, "https://b/y", ok), answer(t, "https://c/", redirectTo("https://c/"))}
	got, err := Run(l, 0, url(t, "https://a/#f"))
	want := api.Response{URL: url(t, "https://b/y"), Head: api.Head{Minor: 1, Status: 200, Fields: []api.Field{{Name: "content-length", Value: "2"}}}, Body: "hi", Trace: []api.Exchange{{URL: url(t, "https://a/"), Status: 302}, {URL: url(t, "https://b/x"), Status: 302}, {URL: url(t, "https://b/y"), Status: 200}}}
	if !reflect.DeepEqual(got, want) || err != api.OK {
		t.Errorf("Run = %+v, %d", got, err)
	}
	got, err = Run(l, 0, url(t, "https://c/"))
	if !reflect.DeepEqual(got, api.Response{Trace: []api.Exchange{{URL: url(t, "https://c/"), Status: 302}}}) || err != api.ErrLoop {
		t.Errorf("Run of a loop = %+v, %d", got, err)
	}
	got, err = Run(l, 0, api.URL{})
	if !reflect.DeepEqual(got, api.Response{}) || err != api.ErrInvalid {
		t.Errorf("Run of no URL = %+v, %d", got, err)
	}
	// What other hosts answer, or answer at other times, does not matter.
	elsewhere := append([]api.Answer{{Host: "b", Target: "/y", Raw: "x", From: 1}}, l...)
	if got, err := Run(world.Without(elsewhere, api.HostPort{Host: "c"}), 0, url(t, "https://a/")); !reflect.DeepEqual(got, want) || err != api.OK {
		t.Errorf("Run without another host = %+v, %d", got, err)
	}
}

func TestConsequences(t *testing.T) {
	var l []api.Answer
	for i := range 9 {
		l = append(l, answer(t, "https://a/"+strconv.Itoa(i), redirectTo(strconv.Itoa(i+1))))
	}
	l = append(l, answer(t, "https://a/9", "HTTP/1.1 200 OK\r\n\r\nend"))
	for i := range 10 {
		got, err := Run(l, 0, url(t, "https://a/"+strconv.Itoa(i)))
		want := api.OK
		if 9-i > api.MaxHops {
			want = api.ErrTooManyRedirects
		}
		if err != want || len(got.Trace) != min(10-i, api.MaxHops+1) || (got.Body == "end") != (want == api.OK) {
			t.Errorf("Run with %d redirects: %d exchanges, %d", 9-i, len(got.Trace), err)
		}
		for j, x := range got.Trace {
			if x.URL != url(t, "https://a/"+strconv.Itoa(i+j)) {
				t.Errorf("Run with %d redirects: %+v", 9-i, got.Trace)
			}
		}
	}
}
