package rules

import (
	"math/rand"
	"reflect"
	"testing"

	"webfinger/api"
	"webfinger/binding"
	"webfinger/cache"
	"webfinger/script"
	"webfinger/session"
)

const calls = 400

// TestP1AndRules calls every function with all sorts of arguments: it ends without a panic; with an error every other result is zero; no argument is changed; results depend on the arguments alone and share no memory, neither with arguments nor with one another.
func TestP1AndRules(t *testing.T) {
	for name, f := range functions {
		t.Run(name, func(t *testing.T) {
			t.Parallel()
			m := maker{rand.New(rand.NewSource(int64(len(name))))}
			for range calls {
				var arguments []reflect.Value
				for i := range reflect.TypeOf(f).NumIn() {
					arguments = append(arguments, m.value(reflect.TypeOf(f).In(i), 0))
				}
				checkCall(t, name, f, arguments)
			}
		})
	}
}

func checkCall(t *testing.T, name string, f any, arguments []reflect.Value) {
	t.Helper()
	var before []reflect.Value
	for _, a := range arguments {
		before = append(before, copyOf(a))
	}
	results := call(t, name, f, arguments)
	checkError(t, name, arguments, results)
	checkMemory(t, name, arguments, results)
	for i := range arguments {
		if !reflect.DeepEqual(arguments[i].Interface(), before[i].Interface()) {
			t.Errorf("%s changes its argument %d", name, i)
		}
	}
	again := call(t, name, f, before)
	for i := range results {
		if !reflect.DeepEqual(results[i].Interface(), again[i].Interface()) {
			t.Errorf("%s gives different results for %.200v", name, before)
		}
	}
}

func call(t *testing.T, name string, f any, arguments []reflect.Value) []reflect.Value {
	t.Helper()
	defer func() {
		if p := recover(); p != nil {
			t.Fatalf("%s panics with %.300v: %v", name, arguments, p)
		}
	}()
	return reflect.ValueOf(f).Call(arguments)
}

// checkError looks at the other results of a call with an error, or with a false.
func checkError(t *testing.T, name string, arguments, results []reflect.Value) {
	t.Helper()
	last := len(results) - 1
	err, isErrno := results[last].Interface().(api.Errno)
	ok, isBool := results[last].Interface().(bool)
	if !(isErrno && err != api.OK) && !(isBool && !ok) {
		return
	}
	for i, r := range results[:last] {
		kept := keptWithError[name]
		if kept == "1" && i == 1 {
			continue
		}
		rest := reflect.New(r.Type()).Elem()
		rest.Set(r)
		if kept == "Trace" && r.Kind() == reflect.Struct && r.FieldByName(kept).IsValid() {
			rest.FieldByName(kept).SetZero()
		}
		if !rest.IsZero() && !(rest.Kind() == reflect.Slice && rest.Len() == 0) {
			t.Errorf("%s(%.200v) = %.200v with an error", name, arguments, results)
		}
	}
}

// span is the memory of a slice.
type span struct{ from, to uintptr }

// spans returns the memory of all slices of a value.
func spans(v reflect.Value) []span {
	var list []span
	switch v.Kind() {
	case reflect.Slice:
		if size := uintptr(v.Cap()) * v.Type().Elem().Size(); size > 0 {
			from := v.Pointer()
			list = append(list, span{from, from + size})
		}
		for i := range v.Len() {
			list = append(list, spans(v.Index(i))...)
		}
	case reflect.Struct:
		for i := range v.NumField() {
			list = append(list, spans(v.Field(i))...)
		}
	}
	return list
}

func checkMemory(t *testing.T, name string, arguments, results []reflect.Value) {
	t.Helper()
	var given, made []span
	for _, a := range arguments {
		given = append(given, spans(a)...)
	}
	for _, r := range results {
		made = append(made, spans(r)...)
	}
	for i, a := range made {
		for _, b := range append(given[:len(given):len(given)], made[i+1:]...) {
			if a.from < b.to && b.from < a.to {
				t.Fatalf("%s shares memory for %.200v", name, arguments)
			}
		}
	}
}

// copyOf returns a value with memory of its own.
func copyOf(v reflect.Value) reflect.Value {
	c := reflect.New(v.Type()).Elem()
	c.Set(v)
	switch v.Kind() {
	case reflect.Slice:
		if v.IsNil() {
			return c
		}
		c.Set(reflect.MakeSlice(v.Type(), v.Len(), v.Len()))
		for i := range v.Len() {
			c.Index(i).Set(copyOf(v.Index(i)))
		}
	case reflect.Struct:
		for i := range v.NumField() {
			c.Field(i).Set(copyOf(v.Field(i)))
		}
	}
	return c
}

// TestScene checks that the arguments above lead into the functions and not only past them.
func TestScene(t *testing.T) {
	x, _, err := script.Parse(scene)
	if err != api.OK {
		t.Fatal(err)
	}
	for s, want := range map[string]api.Errno{"acct:bob@a.example": api.OK, "did:web:d.example": api.OK, "acct:c@c.example": api.ErrSubject} {
		if v := binding.Resolve(x.Answers, 0, s); v.Err != want {
			t.Errorf("%q: %+v", s, v)
		}
	}
	results, s, err := session.Run(x.Answers, x.Capacity, x.Ops[:3])
	if err != api.OK || !results[1].Cached || len(s.Cache.Entries) != 1 || !cache.Sound(s.Cache) {
		t.Errorf("%+v, %+v, %d", results, s, err)
	}
}
