package rules

import (
	"math"
	"math/rand"
	"reflect"
	"strings"

	"webfinger/api"
	"webfinger/ident"
	"webfinger/jsondoc"
	"webfinger/script"
	"webfinger/weburl"
)

const scene = `capacity 3
answer a.example 0 0 0 /.well-known/webfinger?resource=acct%3Abob%40a.example "HTTP/1.1 200 OK\r\nContent-Type: application/jrd+json\r\nCache-Control: max-age=10\r\n\r\n{\"subject\":\"acct:bob@a.example\",\"links\":[{\"rel\":\"self\",\"href\":\"https://b.example/bob\"}]}"
answer b.example 0 0 0 /.well-known/webfinger?resource=https%3A%2F%2Fb.example%2Fbob "HTTP/1.1 302 Found\r\nLocation: /there\r\n\r\n"
answer b.example 0 0 0 /there "HTTP/1.1 200 OK\r\nContent-Type: application/json\r\nCache-Control: max-age=20\r\n\r\n{\"subject\":\"https://b.example/bob\",\"aliases\":[\"acct:bob@a.example\",\"did:web:d.example\"]}"
answer d.example 0 0 0 /.well-known/did.json "HTTP/1.1 200 OK\r\nContent-Type: application/did+json\r\nTransfer-Encoding: chunked\r\n\r\n8\r\n{\"id\":\"d\r\n7c\r\nid:web:d.example\",\"alsoKnownAs\":[\"https://b.example/bob\"],\"service\":[{\"id\":\"#f\",\"type\":\"T\",\"serviceEndpoint\":\"https://s/\"}]}\r\n0\r\n\r\n"
answer c.example 0 0 0 /.well-known/webfinger?resource=acct%3Ac%40c.example "HTTP/1.1 404 -\r\n\r\n"
answer c.example 0 0 0 /.well-known/host-meta.json "HTTP/1.1 410 -\r\n\r\n"
answer c.example 0 0 0 / "HTTP/1.1 200 -\r\nLink: <//b.example/there>; rel=lrdd\r\n\r\n"
answer e.example 0 9 4 / ""
resolve acct:bob@a.example
resolve acct:bob@a.example
resolve did:web:d.example
deref did:web:d.example?service=f
deref did:web:d.example#f
tick 5
resolve acct:c@c.example
clear
`

// texts has strings of all the kinds that functions read.
var texts = []string{
	"", "a", "A.example", "a.example:8443", "1.2.3.4", "x..y", "%41", "%", "%zz", "7", "007", "18446744073709551616", "-", "/a/../b", "../x", "?q#f", "\xff", "ä€😀", "\x00\n\r\t", " a b ", "{uri}", "https://t.example/{uri}", "self", "lrdd", "rel", "location", "link", "age",
	"https://b.example/bob", "HTTPS://B.example:443/./bob#x", "https://c.example/", "http://a/", "acct:bob@a.example", "ACCT:%62ob@A.example", "acct:c@c.example", "mailto:bob@a.example", "did:web:d.example", "did:web:d.example#f", "did:web:d.example?service=f&relativeRef=x", "did:web:a.example%3A8443:users", "did:x:y",
	"subject", "aliases", "links", "id", "service",
	"HTTP/1.1 200 OK\r\nContent-Length: 2\r\n\r\nhi", "HTTP/1.1 302 -\r\nLocation: /x\r\n\r\n", "HTTP/1.1 200", "3\r\nabc\r\n0\r\n\r\n", "application/jrd+json; charset=utf-8", "max-age=100, public", `<x>; rel="lrdd other"; t, <y>`, "application/did+json", "content-type", "cache-control", "no-store", "chunked", "5", scene, "resolve x\ntick 3\n", "capacity x",
}

// documents has JSON texts.
var documents = []string{
	`{"subject":"acct:bob@a.example","aliases":["https://b.example/bob"],"links":[{"rel":"lrdd","template":"https://t.example/{uri}"}]}`, `{"id":"did:web:d.example","service":[{"id":"#f","type":"T","serviceEndpoint":"https://s/"}]}`, "[1,[2.50,true],null]", `"\u00e4"`, "-1.5e3", `{"a":1,"a":2}`, "[[[",
}

var integers = []int{0, 1, 2, 3, 4, 5, 6, 7, 9, 64, 200, 302, 404, 410, 443, 1024, 65536, -1, -7, 1 << 20, math.MaxInt, math.MinInt}

var naturals = []uint64{0, 1, 2, 5, 9, 10, 100, 86400, 86401, 1 << 63, math.MaxUint64 - 1, math.MaxUint64}

// maker makes arguments, the same ones in every run.
type maker struct{ *rand.Rand }

func pick[T any](m maker, list []T) T { return list[m.Intn(len(list))] }

func (m maker) text() string {
	switch m.Intn(8) {
	case 0:
		return pick(m, texts) + pick(m, texts)
	case 1:
		t := pick(m, texts)
		return t[:m.Intn(len(t)+1)]
	case 2:
		return strings.Repeat(pick(m, texts), m.Intn(300))
	case 3:
		return pick(m, documents)
	}
	return pick(m, texts)
}

// value returns an argument of a type.
func (m maker) value(t reflect.Type, depth int) reflect.Value {
	if v, ok := m.meaningful(t); ok && m.Intn(3) > 0 {
		return reflect.ValueOf(v)
	}
	v := reflect.New(t).Elem()
	switch t.Kind() {
	case reflect.String:
		v.SetString(m.text())
	case reflect.Int:
		v.SetInt(int64(pick(m, integers)))
	case reflect.Uint64:
		v.SetUint(pick(m, naturals))
	case reflect.Uint8:
		v.SetUint(uint64(m.Intn(256)))
	case reflect.Bool:
		v.SetBool(m.Intn(2) == 0)
	case reflect.Struct:
		for i := range v.NumField() {
			v.Field(i).Set(m.value(t.Field(i).Type, depth+1))
		}
	case reflect.Slice:
		if depth > 4 {
			return v
		}
		v.Set(reflect.MakeSlice(t, 0, 6))
		for range m.Intn(4) {
			v.Set(reflect.Append(v, m.value(t.Elem(), depth+1)))
		}
	}
	return v
}

// meaningful returns arguments that functions accept, for the types of which random ones hardly ever are.
func (m maker) meaningful(t reflect.Type) (any, bool) {
	x, _, _ := script.Parse(scene)
	switch t {
	case reflect.TypeFor[[]api.Answer]():
		return x.Answers, true
	case reflect.TypeFor[[]api.Op]():
		return x.Ops, true
	case reflect.TypeFor[api.Script]():
		return x, true
	case reflect.TypeFor[api.Value]():
		v, _, _ := jsondoc.Parse(pick(m, documents))
		return v, true
	case reflect.TypeFor[api.ID]():
		id, _ := ident.Parse(pick(m, texts))
		return id, true
	case reflect.TypeFor[api.URL]():
		u, _ := weburl.Parse(pick(m, texts))
		return u, true
	case reflect.TypeFor[api.Head]():
		h := api.Head{Minor: 1, Status: pick(m, integers)}
		for range m.Intn(4) {
			h.Fields = append(h.Fields, api.Field{Name: pick(m, texts), Value: pick(m, texts)})
		}
		return h, true
	}
	return nil, false
}
