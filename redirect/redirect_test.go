package redirect

import (
	"math"
	"slices"
	"testing"

	"webfinger/api"
	"webfinger/sample"
	"webfinger/weburl"
)

func to(locations ...string) api.Head {
	h := api.Head{Status: 302}
	for _, l := range locations {
		h.Fields = append(h.Fields, api.Field{Name: "x", Value: "y"}, api.Field{Name: "Location", Value: l})
	}
	return h
}

var from = api.URL{Host: "a.example", Path: "/b/c", Query: "q", HasQuery: true}

func TestP25_1IsRedirect(t *testing.T) {
	for status := -1; status < 700; status++ {
		if want := slices.Contains([]int{301, 302, 303, 307, 308}, status); IsRedirect(status) != want {
			t.Errorf("IsRedirect(%d) = %v", status, !want)
		}
	}
}

func TestP25_2Next(t *testing.T) {
	for location, want := range map[string]string{
		"../x": "https://a.example/x", "https://B.example:8443/%7e#f": "https://b.example:8443/~", "//c": "https://c/", "?r#f": "https://a.example/b/c?r", "#f": "https://a.example/b/c?q", "": "https://a.example/b/c?q", "HTTPS://d": "https://d/",
	} {
		got, err := Next(from, to(location), nil, api.MaxHops-1)
		if weburl.Format(got) != want || err != api.OK {
			t.Errorf("Next(%q) = %+v, %d", location, got, err)
		}
	}
	if got, err := Next(api.URL{Host: "a.example", Path: "/b/c"}, to("../x"), nil, math.MinInt); got != (api.URL{Host: "a.example", Path: "/x"}) || err != api.OK {
		t.Errorf("Next = %+v, %d", got, err)
	}
}

func TestP25_2NextErrors(t *testing.T) {
	same := from
	same.Fragment, same.HasFrag = "f", true
	for _, c := range []struct {
		from api.URL
		h    api.Head
		seen []api.URL
		hops int
		err  api.Errno
	}{
		{from, to(), nil, api.MaxHops, api.ErrTooManyRedirects}, {from, to("x"), nil, math.MaxInt, api.ErrTooManyRedirects},
		{from, to(), nil, 4, api.ErrLocation}, {from, to("x", "x"), nil, 0, api.ErrLocation}, {from, to("http://a", "http://a"), nil, 0, api.ErrLocation}, {from, to("%"), nil, 0, api.ErrLocation}, {from, to(" x"), nil, 0, api.ErrLocation}, {from, to("https://"), nil, 0, api.ErrLocation}, {from, to("https:"), nil, 0, api.ErrLocation}, {from, to("1:"), nil, 0, api.ErrLocation}, {from, to("//u@b"), nil, 0, api.ErrLocation}, {api.URL{}, to("https://a/"), nil, 0, api.ErrLocation}, {api.URL{}, to("http://a/"), nil, 0, api.ErrLocation},
		{from, to("http://a.example/"), nil, 0, api.ErrInsecure}, {from, to("mailto:a@b"), []api.URL{from}, 0, api.ErrInsecure},
		{from, to(""), []api.URL{from}, 0, api.ErrLoop}, {from, to("#f"), []api.URL{{}, from}, 0, api.ErrLoop}, {from, to("https://A.example:443/b/./c?q"), []api.URL{from}, 0, api.ErrLoop}, {from, to("#f"), []api.URL{same}, 0, api.OK}, {from, to("?"), []api.URL{from, {Host: "a.example", Path: "/b/c"}}, 0, api.OK},
	} {
		if got, err := Next(c.from, c.h, c.seen, c.hops); err != c.err || (got == api.URL{}) != (err != api.OK) {
			t.Errorf("Next(%+v, %+v, %+v, %d) = %+v, %d", c.from, c.h, c.seen, c.hops, got, err)
		}
	}
}

func TestConsequences(t *testing.T) {
	seen := []api.URL{from, {Host: "b", Path: "/"}}
	for location := range sample.Texts(5, "//b", "/", "..", "#f", "?", "x", "%", ":8") {
		next, err := Next(from, to(location), seen, 0)
		if err == api.OK && (!weburl.Valid(next) || next.HasFrag || slices.Contains(seen, next)) {
			t.Errorf("Next(%q) = %+v", location, next)
		}
	}
}
