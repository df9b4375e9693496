package session

import (
	"math"
	"reflect"
	"strconv"
	"strings"
	"testing"

	"webfinger/api"
	"webfinger/binding"
	"webfinger/cache"
	"webfinger/deref"
	"webfinger/percent"
)

// about is the JRD of a host about an identifier, with an alias, that is fresh for so many seconds.
func about(host, subject, alias string, age int) api.Answer {
	return api.Answer{Host: host, Target: "/.well-known/webfinger?resource=" + percent.Encode(subject, ""), Raw: "HTTP/1.1 200 OK\r\nContent-Type: application/jrd+json\r\nCache-Control: max-age=" + strconv.Itoa(age) + "\r\n\r\n" +
		`{"subject":"` + subject + `","aliases":["` + alias + `"]}`}
}

const (
	bob     = "acct:bob@a.example"
	profile = "https://b.example/bob"
	eve     = "acct:eve@a.example"
)

// world accepts bob for 10 seconds and its profile for 5; nobody answers for others.
func world() []api.Answer {
	return []api.Answer{
		about("a.example", bob, profile, 10), about("b.example", profile, bob, 10), about("a.example", eve, profile, 10),
		{Host: "d.example", Target: "/.well-known/did.json", Raw: "HTTP/1.1 200 -\r\nContent-Type: application/did+json\r\n\r\n" + `{"id":"did:web:d.example"}`},
	}
}

func resolve(s string) api.Op { return api.Op{Kind: api.OpResolve, Text: s} }
func tick(n uint64) api.Op    { return api.Op{Kind: api.OpTick, Ticks: n} }

func TestP32_1New(t *testing.T) {
	if s, err := New(7); !reflect.DeepEqual(s, api.Session{Cache: api.Cache{Capacity: 7}}) || err != api.OK {
		t.Errorf("New = %+v, %d", s, err)
	}
	for _, capacity := range []int{-1, api.MaxCapacity + 1} {
		if s, err := New(capacity); !reflect.DeepEqual(s, api.Session{}) || err != api.ErrRange {
			t.Errorf("New(%d) = %+v, %d", capacity, s, err)
		}
	}
}

func TestP32_2DoResolve(t *testing.T) {
	l := world()
	s, _ := New(5)
	s.Now = 3
	want := binding.Resolve(l, 3, bob)
	s, got := Do(l, s, resolve("ACCT:bob@A.example"))
	if !reflect.DeepEqual(got, api.Result{Verdict: want}) || want.Err != api.OK || !reflect.DeepEqual(s.Cache, cache.Put(api.Cache{Capacity: 5}, want, 3)) || s.Now != 3 {
		t.Fatalf("first: %+v, %+v", got, s)
	}
	s2, got := Do(nil, s, resolve("acct:%62ob@a.example"))
	if !reflect.DeepEqual(got, api.Result{Verdict: want, Cached: true}) || !reflect.DeepEqual(s2, s) {
		t.Errorf("second: %+v, %+v", got, s2)
	}
	for text, err := range map[string]api.Errno{eve: api.ErrUnbound, "acct:x@a.example": api.ErrConnect, "x": api.ErrScheme, "": api.ErrScheme} {
		s2, got := Do(l, s, resolve(text))
		if !reflect.DeepEqual(got, api.Result{Err: err, Verdict: binding.Resolve(l, 3, text)}) || !reflect.DeepEqual(s2, s) {
			t.Errorf("Do(resolve %q) = %+v, %+v", text, got, s2)
		}
	}
}

func TestP32_2DoOthers(t *testing.T) {
	l := world()
	s, _ := New(5)
	s, _ = Do(l, s, resolve(bob))
	for _, c := range []struct{ ticks, now uint64 }{{0, 0}, {9, 9}, {10, 10}, {math.MaxUint64, math.MaxUint64}} {
		got, result := Do(l, s, api.Op{Kind: api.OpTick, Ticks: c.ticks, Text: "ignored"})
		want := api.Session{Now: c.now, Cache: cache.Expire(s.Cache, c.now)}
		if got.Now != want.Now || len(got.Cache.Entries) != len(want.Cache.Entries) || (c.now < 10) != (len(got.Cache.Entries) == 1) || !reflect.DeepEqual(result, api.Result{}) {
			t.Errorf("Do(tick %d) = %+v, %+v", c.ticks, got, result)
		}
	}
	late := s
	late.Cache.Entries, late.Now = nil, math.MaxUint64-1
	if got, _ := Do(l, late, tick(5)); got.Now != math.MaxUint64 {
		t.Errorf("a tick at the end of time: %d", got.Now)
	}
	for _, text := range []string{"did:web:d.example", "did:web:d.example#k", "x"} {
		got, result := Do(l, s, api.Op{Kind: api.OpDeref, Text: text})
		d, err := deref.Run(l, 0, text)
		if !reflect.DeepEqual(got, s) || !reflect.DeepEqual(result, api.Result{Err: err, Deref: d}) {
			t.Errorf("Do(deref %q) = %+v, %+v", text, got, result)
		}
	}
	if got, result := Do(l, s, api.Op{Kind: api.OpClear}); got.Now != 0 || got.Cache.Capacity != 5 || len(got.Cache.Entries) != 0 || !reflect.DeepEqual(result, api.Result{}) {
		t.Errorf("Do(clear) = %+v, %+v", got, result)
	}
	for _, kind := range []int{0, 5, -1, math.MaxInt} {
		if got, result := Do(l, s, api.Op{Kind: kind, Text: bob}); !reflect.DeepEqual(got, s) || !reflect.DeepEqual(result, api.Result{Err: api.ErrInvalid}) {
			t.Errorf("Do(%d) = %+v, %+v", kind, got, result)
		}
	}
}

func TestP32_2DoWithAnUnsoundCache(t *testing.T) {
	good, _, _ := Run(world(), 1, []api.Op{resolve(bob)})
	for _, c := range []api.Cache{{Capacity: -1}, {Capacity: 1, Entries: []api.Entry{{Verdict: good[0].Verdict, Expiry: 11}}}, {Capacity: 1, Entries: make([]api.Entry, 2)}} {
		s := api.Session{Now: 4, Cache: c}
		for kind := range 6 {
			got, result := Do(world(), s, api.Op{Kind: kind, Text: bob, Ticks: 3})
			if !reflect.DeepEqual(got, s) || !reflect.DeepEqual(result, api.Result{Err: api.ErrInvalid}) {
				t.Errorf("Do(%d) with %+v = %+v, %+v", kind, c, got, result)
			}
		}
	}
}

func TestDoSharesNoMemory(t *testing.T) {
	l := world()
	s, _ := New(5)
	first, result := Do(l, s, resolve(bob))
	result.Verdict.Trace[0].Status = 1
	for _, o := range []api.Op{{}, resolve(bob), resolve(eve), tick(1), {Kind: api.OpDeref}} {
		next, result := Do(l, first, o)
		if next.Cache.Entries[0].Verdict.Trace[0].Status = 2; len(result.Verdict.Trace) > 0 {
			result.Verdict.Trace[0].Status = 3
		}
		if first.Cache.Entries[0].Verdict.Trace[0].Status != 200 {
			t.Fatalf("Do(%+v) shares memory", o)
		}
	}
}

func TestP32_3Run(t *testing.T) {
	l := world()
	results, s, err := Run(l, 2, []api.Op{resolve(bob), resolve(bob), tick(9), resolve(bob), tick(1), resolve(bob), {Kind: api.OpClear}, resolve(bob), resolve(profile), {Kind: 9}, resolve("ACCT:bob@a.example")})
	if err != api.OK || len(results) != 11 || s.Now != 10 || len(s.Cache.Entries) != 2 {
		t.Fatalf("Run = %+v, %+v, %d", results, s, err)
	}
	for i, want := range []bool{false, true, false, true, false, false, false, false, false, false, true} {
		if results[i].Cached != want {
			t.Errorf("result %d: %+v", i, results[i])
		}
	}
	if results[9].Err != api.ErrInvalid {
		t.Errorf("result 9: %+v", results[9])
	}
	if results, _, _ := Run(l, 0, []api.Op{resolve(bob), resolve(bob)}); results[1].Cached || results[1].Err != api.OK {
		t.Errorf("Run with the capacity 0 = %+v", results)
	}
	for _, c := range []struct {
		capacity, ops int
		err           api.Errno
	}{{-1, 999, api.ErrRange}, {1025, 0, api.ErrRange}, {1, api.MaxOps + 1, api.ErrLimit}} {
		if results, s, err := Run(l, c.capacity, make([]api.Op, c.ops)); results != nil || !reflect.DeepEqual(s, api.Session{}) || err != c.err {
			t.Errorf("Run(%+v) = %+v, %+v, %d", c, results, s, err)
		}
	}
	if results, _, err := Run(l, 1024, make([]api.Op, api.MaxOps)); len(results) != api.MaxOps || err != api.OK {
		t.Errorf("Run at the limit: %d, %d", len(results), err)
	}
}

// TestConsequences checks cached verdicts against the operations before them.
func TestConsequences(t *testing.T) {
	l := world()
	var ops []api.Op
	for i := range 200 {
		few := []api.Op{resolve(bob), resolve(profile), resolve(eve), tick(uint64(i % 4)), resolve("x"), resolve(strings.ToUpper(bob[:5]) + bob[5:])}
		ops = append(ops, few[(i+i/6)%6])
		if i%40 == 39 {
			ops = append(ops, api.Op{Kind: api.OpClear})
		}
	}
	results, _, err := Run(l, 2, ops)
	if err != api.OK {
		t.Fatal(err)
	}
	now, cached := uint64(0), 0
	made := map[api.ID]uint64{}
	for i, r := range results {
		if ops[i].Kind == api.OpTick {
			now += ops[i].Ticks
		}
		if !r.Cached {
			made[r.Verdict.ID] = now
			continue
		}
		cached++
		at, ok := made[r.Verdict.ID]
		if !ok || r.Err != api.OK || now >= at+r.Verdict.Fresh.Seconds || !reflect.DeepEqual(r.Verdict, binding.Resolve(l, at, ops[i].Text)) {
			t.Errorf("result %d at %d: %+v", i, now, r)
		}
	}
	if cached < 20 {
		t.Errorf("only %d cached results", cached)
	}
}
