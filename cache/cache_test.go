package cache

import (
	"math"
	"reflect"
	"sort"
	"strconv"
	"testing"

	"webfinger/api"
	"webfinger/ident"
)

// verdict is one about an acct identifier that may be cached for so many seconds.
func verdict(t *testing.T, name string, seconds uint64) api.Verdict {
	t.Helper()
	id, err := ident.Parse("acct:" + name + "@a.example")
	if err != api.OK {
		t.Fatalf("%q: %d", name, err)
	}
	return api.Verdict{ID: id, Profile: api.ID{Text: "p"}, Fresh: api.Fresh{Store: true, Seconds: seconds}, Trace: []api.Exchange{{Status: 200}}}
}

func entry(v api.Verdict, stored, expiry uint64) api.Entry {
	return api.Entry{Verdict: v, Stored: stored, Expiry: expiry}
}

func texts(c api.Cache) string {
	list := ""
	for _, e := range c.Entries {
		list += e.Verdict.ID.Text[5:6]
	}
	return list
}

func TestP31_1New(t *testing.T) {
	for _, capacity := range []int{0, 1, api.MaxCapacity} {
		if c, err := New(capacity); !reflect.DeepEqual(c, api.Cache{Capacity: capacity}) || err != api.OK || !Sound(c) {
			t.Errorf("New(%d) = %+v, %d", capacity, c, err)
		}
	}
	for _, capacity := range []int{-1, api.MaxCapacity + 1, math.MinInt, math.MaxInt} {
		if c, err := New(capacity); !reflect.DeepEqual(c, api.Cache{}) || err != api.ErrRange {
			t.Errorf("New(%d) = %+v, %d", capacity, c, err)
		}
	}
}

func TestP31_1Sound(t *testing.T) {
	a, b := entry(verdict(t, "a", 10), 5, 15), entry(verdict(t, "b", api.MaxAge), math.MaxUint64-1, math.MaxUint64)
	for _, c := range []api.Cache{{}, {Capacity: 2, Entries: []api.Entry{a, b}}, {Capacity: 9, Entries: []api.Entry{b}}, {Capacity: 1, Entries: []api.Entry{entry(verdict(t, "a", 1), 0, 1)}}} {
		if !Sound(c) {
			t.Errorf("%+v is not sound", c)
		}
	}
	changed := func(change func(*api.Entry)) api.Cache {
		e := a
		change(&e)
		return api.Cache{Capacity: 5, Entries: []api.Entry{e, b}}
	}
	for i, c := range []api.Cache{
		{Capacity: -1}, {Capacity: api.MaxCapacity + 1}, {Capacity: 1, Entries: []api.Entry{a, b}}, {Entries: []api.Entry{a}}, {Capacity: 5, Entries: []api.Entry{b, a}}, {Capacity: 5, Entries: []api.Entry{a, a}},
		changed(func(e *api.Entry) { e.Expiry++ }), changed(func(e *api.Entry) { e.Stored++ }), changed(func(e *api.Entry) { e.Verdict.Err = api.ErrUnbound }), changed(func(e *api.Entry) { e.Verdict.Fresh.Store = false }), changed(func(e *api.Entry) { e.Verdict.Fresh.Seconds, e.Expiry = 0, e.Stored }), changed(func(e *api.Entry) { e.Verdict.Fresh.Seconds, e.Expiry = api.MaxAge+1, e.Stored+api.MaxAge+1 }), changed(func(e *api.Entry) { e.Verdict.ID.Host = "b" }), changed(func(e *api.Entry) { e.Verdict.ID = api.ID{} }),
	} {
		if Sound(c) {
			t.Errorf("cache %d is sound: %+v", i, c)
		}
	}
}

func TestP31_2Get(t *testing.T) {
	a, b := verdict(t, "a", 10), verdict(t, "b", 3)
	c := api.Cache{Capacity: 3, Entries: []api.Entry{entry(a, 5, 15), entry(b, 0, 3)}}
	for _, x := range []struct {
		text string
		now  uint64
		want api.Verdict
	}{
		{a.ID.Text, 5, a}, {a.ID.Text, 14, a}, {a.ID.Text, 4, api.Verdict{}}, {a.ID.Text, 15, api.Verdict{}}, {a.ID.Text, math.MaxUint64, api.Verdict{}}, {b.ID.Text, 0, b}, {b.ID.Text, 3, api.Verdict{}}, {"acct:A@a.example", 6, api.Verdict{}}, {"", 6, api.Verdict{}}, {"acct:c@a.example", 6, api.Verdict{}}, {"ACCT:a@a.example", 6, api.Verdict{}},
	} {
		if got, ok := Get(c, x.text, x.now); !reflect.DeepEqual(got, x.want) || ok != (x.want.ID.Kind != 0) {
			t.Errorf("Get(%q, %d) = %+v, %v", x.text, x.now, got, ok)
		}
	}
	got, _ := Get(c, a.ID.Text, 5)
	got.Trace[0].Status = 1
	if a.Trace[0].Status != 200 {
		t.Error("Get shares memory with its argument")
	}
}

func TestP31_3Put(t *testing.T) {
	c, _ := New(3)
	c = Put(c, verdict(t, "b", 10), 1)
	c = Put(c, verdict(t, "c", 5), 2)
	c = Put(c, verdict(t, "a", 5), 2)
	want := api.Cache{Capacity: 3, Entries: []api.Entry{entry(verdict(t, "a", 5), 2, 7), entry(verdict(t, "b", 10), 1, 11), entry(verdict(t, "c", 5), 2, 7)}}
	if !reflect.DeepEqual(c, want) || !Sound(c) {
		t.Fatalf("Put = %+v", c)
	}
	replaced := Put(c, verdict(t, "c", 99), 3)
	if texts(replaced) != "abc" || replaced.Entries[2].Expiry != 102 || replaced.Entries[2].Stored != 3 {
		t.Errorf("Put of an identifier that is there = %+v", replaced)
	}
	for name, left := range map[string]string{"0": "0bc", "aa": "abc", "d": "bcd", "bb": "bbc"} {
		got := Put(c, verdict(t, name, 1), 2)
		if texts(got) != left || !Sound(got) {
			t.Errorf("Put(%q) = %q", name, texts(got))
		}
	}
	if got := Put(Put(c, verdict(t, "a", 99), 2), verdict(t, "d", 1), 2); texts(got) != "abd" {
		t.Errorf("Put evicts the wrong entry: %q", texts(got))
	}
	late := Put(c, verdict(t, "b", 10), math.MaxUint64-4)
	if late.Entries[1].Expiry != math.MaxUint64 || !Sound(late) {
		t.Errorf("Put at the end of time = %+v", late)
	}
	one, _ := New(1)
	one = Put(Put(one, verdict(t, "a", 999), 0), verdict(t, "b", 1), 0)
	if texts(one) != "b" {
		t.Errorf("Put with the capacity 1 = %q", texts(one))
	}
}

func TestP31_3PutOfWhatStays(t *testing.T) {
	c := Put(api.Cache{Capacity: 2}, verdict(t, "b", 10), 1)
	for i, change := range []func(*api.Verdict){
		func(v *api.Verdict) { v.Err = api.ErrUnbound }, func(v *api.Verdict) { v.Fresh.Store = false }, func(v *api.Verdict) { v.Fresh.Seconds = 0 }, func(v *api.Verdict) { v.Fresh.Seconds = api.MaxAge + 1 }, func(v *api.Verdict) { v.ID.Port = 1 }, func(v *api.Verdict) { *v = api.Verdict{} },
	} {
		for _, name := range []string{"a", "b"} {
			v := verdict(t, name, 20)
			if change(&v); !reflect.DeepEqual(Put(c, v, 5), c) {
				t.Errorf("change %d: %+v", i, Put(c, v, 5))
			}
		}
	}
	if got := Put(api.Cache{}, verdict(t, "a", 5), 0); !reflect.DeepEqual(got, api.Cache{}) {
		t.Errorf("Put with the capacity 0 = %+v", got)
	}
	v := verdict(t, "a", 20)
	got := Put(c, v, 5)
	got.Entries[0].Verdict.Trace[0].Status, got.Entries[1].Verdict.Trace[0].Status, got.Entries[1].Stored = 1, 1, 9
	if v.Trace[0].Status != 200 || c.Entries[0].Verdict.Trace[0].Status != 200 || c.Entries[0].Stored != 1 {
		t.Error("Put shares memory with its arguments")
	}
}

func TestP31_4Expire(t *testing.T) {
	c := api.Cache{Capacity: 5}
	for name, seconds := range map[string]uint64{"a": 5, "b": 3, "c": 9, "d": 4} {
		c = Put(c, verdict(t, name, seconds), 0)
	}
	for now, want := range map[uint64]string{0: "abcd", 2: "abcd", 3: "acd", 4: "ac", 5: "c", 8: "c", 9: "", math.MaxUint64: ""} {
		got := Expire(c, now)
		if texts(got) != want || !Sound(got) || got.Capacity != 5 || texts(c) != "abcd" {
			t.Errorf("Expire(%d) = %q", now, texts(got))
		}
	}
	got := Expire(c, 0)
	if got.Entries[0].Verdict.Trace[0].Status = 1; c.Entries[0].Verdict.Trace[0].Status != 200 {
		t.Error("Expire shares memory with its argument")
	}
}

// TestConsequences compares the cache with a plain map from texts to entries.
func TestConsequences(t *testing.T) {
	c, _ := New(4)
	model := map[string]api.Entry{}
	now := uint64(0)
	for i := range 3000 {
		v := verdict(t, strconv.Itoa(i*7%11), uint64(i*i%13))
		text := v.ID.Text
		if _, isThere := model[text]; !isThere && len(model) == 4 && v.Fresh.Seconds > 0 {
			keys := []string{}
			for key := range model {
				keys = append(keys, key)
			}
			sort.Slice(keys, func(i, j int) bool {
				a, b := model[keys[i]], model[keys[j]]
				return a.Expiry < b.Expiry || a.Expiry == b.Expiry && keys[i] < keys[j]
			})
			delete(model, keys[0])
		}
		if v.Fresh.Seconds > 0 {
			model[text] = entry(v, now, now+v.Fresh.Seconds)
		}
		c = Put(c, v, now)
		if i%3 == 0 {
			now += uint64(i % 4)
		}
		if i%50 == 49 {
			c = Expire(c, now)
			for key, e := range model {
				if e.Expiry <= now {
					delete(model, key)
				}
			}
		}
		if len(c.Entries) != len(model) || !Sound(c) {
			t.Fatalf("step %d: %d entries, not %d", i, len(c.Entries), len(model))
		}
		for j := range 11 {
			text := "acct:" + strconv.Itoa(j) + "@a.example"
			e, isThere := model[text]
			if _, ok := Get(c, text, now); ok != (isThere && now < e.Expiry) {
				t.Fatalf("step %d: Get(%q, %d) = %v", i, text, now, ok)
			}
		}
	}
}

func TestUnsoundCachesDoNotPanic(t *testing.T) {
	b, a := entry(verdict(t, "b", 3), 0, 3), entry(verdict(t, "a", 3), 9, 1)
	for _, c := range []api.Cache{{Capacity: -5, Entries: []api.Entry{b, a}}, {Capacity: 1, Entries: []api.Entry{b, a, b}}, {Capacity: math.MaxInt, Entries: []api.Entry{a, a}}} {
		Get(c, "acct:a@a.example", 2)
		Put(c, verdict(t, "c", 3), math.MaxUint64)
		Expire(c, 2)
		if Sound(c) {
			t.Errorf("%+v is sound", c)
		}
	}
}
