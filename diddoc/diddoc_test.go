package diddoc

import (
	"reflect"
	"strings"
	"testing"

	"webfinger/api"
	"webfinger/jsondoc"
	"webfinger/sample"
)

func value(t *testing.T, s string) api.Value {
	t.Helper()
	v, _, err := jsondoc.Parse(s)
	if err != api.OK {
		t.Fatalf("%q is no JSON text: %d", s, err)
	}
	return v
}

func list(count int, item string) string {
	return "[" + strings.TrimSuffix(strings.Repeat(item+",", count), ",") + "]"
}

// about returns the text of a document with further members.
func about(members string) string {
	return `{"id":"did:web:a.example"` + strings.TrimSuffix(","+members, ",") + "}"
}

const (
	key     = `{"id":"#k","type":"T","controller":"C"}`
	service = `{"id":"#s","type":"T","serviceEndpoint":"E"}`
)

func TestP17_1Decode(t *testing.T) {
	for s, want := range map[string]api.Doc{
		about(""): {ID: "did:web:a.example"}, `{"x":1,"id":"did:X:%7e"}`: {},
		`{"x":1,"id":"did:x:%7e%41"}`: {ID: "did:x:%7EA"}, about(`"alsoKnownAs":[],"controller":[],"verificationMethod":[],"service":[]`): {ID: "did:web:a.example"},
		about(`"controller":"c","alsoKnownAs":["x",""]`): {ID: "did:web:a.example", Also: []string{"x", ""}, Controllers: []string{"c"}},
		about(`"controller":["c","d"]`):                  {ID: "did:web:a.example", Controllers: []string{"c", "d"}},
		about(`"verificationMethod":[` + key + `,{"x":0,"controller":"","type":"","id":"did:x:y/p?q#%6b"}]`): {ID: "did:web:a.example", Methods: []api.Method{{ID: "did:web:a.example#k", Type: "T", Controller: "C"}, {ID: "did:x:y/p?q#k"}}},
		about(`"service":[` + service + `,{"id":"","type":["A","B"],"serviceEndpoint":["E","F"]},{"id":"/p","type":[],"serviceEndpoint":{"x":1}},{"id":"?q","type":"","serviceEndpoint":[]}]`): {ID: "did:web:a.example", Services: []api.Service{
			{ID: "did:web:a.example#s", Types: []string{"T"}, Endpoints: []string{"E"}}, {ID: "did:web:a.example", Types: []string{"A", "B"}, Endpoints: []string{"E", "F"}}, {ID: "did:web:a.example/p"}, {ID: "did:web:a.example?q", Types: []string{""}}}},
	} {
		got, err := Decode(value(t, s))
		if !reflect.DeepEqual(got, want) || (err == api.OK) != (want.ID != "") {
			t.Errorf("Decode(%s) = %+v, %d", s, got, err)
		}
	}
}

func TestP17_1DecodeErrors(t *testing.T) {
	tooMany := list(65, "1")
	for s, want := range map[string]api.Errno{
		"null": api.ErrShape, "[]": api.ErrShape, "{}": api.ErrShape, `{"id":1}`: api.ErrShape, `{"id":null}`: api.ErrShape, `{"id":""}`: api.ErrShape, `{"id":"did:web:"}`: api.ErrShape, `{"id":"did:web:a#k"}`: api.ErrShape, `{"id":"https://a"}`: api.ErrShape, `{"id":1,"alsoKnownAs":` + tooMany + `}`: api.ErrShape,
		about(`"alsoKnownAs":"x"`): api.ErrShape, about(`"alsoKnownAs":[1]`): api.ErrShape, about(`"alsoKnownAs":null`): api.ErrShape, about(`"controller":1`): api.ErrShape, about(`"controller":null`): api.ErrShape, about(`"controller":{}`): api.ErrShape, about(`"controller":["c",1]`): api.ErrShape,
		about(`"verificationMethod":{}`): api.ErrShape, about(`"verificationMethod":[1]`): api.ErrShape, about(`"verificationMethod":["#k"]`): api.ErrShape, about(`"verificationMethod":[{}]`): api.ErrShape, about(`"verificationMethod":[{"type":"","controller":""}]`): api.ErrShape, about(`"verificationMethod":[{"id":"#k","controller":""}]`): api.ErrShape, about(`"verificationMethod":[{"id":"#k","type":""}]`): api.ErrShape,
		about(`"verificationMethod":[{"id":"k","type":"","controller":""}]`): api.ErrShape, about(`"verificationMethod":[{"id":"# ","type":"","controller":""}]`): api.ErrShape, about(`"verificationMethod":[{"id":"#k","type":["T"],"controller":""}]`): api.ErrShape, about(`"verificationMethod":[{"id":"#k","type":"T","controller":["C"]}]`): api.ErrShape,
		about(`"service":{}`): api.ErrShape, about(`"service":[[]]`): api.ErrShape, about(`"service":[{"type":"T","serviceEndpoint":"E"}]`): api.ErrShape, about(`"service":[{"id":"#s","serviceEndpoint":"E"}]`): api.ErrShape, about(`"service":[{"id":"#s","type":"T"}]`): api.ErrShape, about(`"service":[{"id":"s","type":"T","serviceEndpoint":"E"}]`): api.ErrShape, about(`"service":[{"id":1,"type":"T","serviceEndpoint":"E"}]`): api.ErrShape,
		about(`"service":[{"id":"#s","type":{},"serviceEndpoint":"E"}]`): api.ErrShape, about(`"service":[{"id":"#s","type":[1],"serviceEndpoint":"E"}]`): api.ErrShape, about(`"service":[{"id":"#s","type":"T","serviceEndpoint":1}]`): api.ErrShape, about(`"service":[{"id":"#s","type":"T","serviceEndpoint":[{}]}]`): api.ErrShape, about(`"service":[{"id":"#s","type":"T","serviceEndpoint":null}]`): api.ErrShape,
		about(`"alsoKnownAs":` + tooMany): api.ErrTooMany, about(`"controller":` + tooMany): api.ErrTooMany, about(`"verificationMethod":` + tooMany): api.ErrTooMany, about(`"service":` + tooMany): api.ErrTooMany, about(`"service":[{"id":"#s","type":` + tooMany + `}]`): api.ErrTooMany, about(`"service":[{"id":"#s","type":"","serviceEndpoint":` + tooMany + `}]`): api.ErrTooMany,
		// The order of the members of the document counts, not that of the text.
		about(`"controller":1,"alsoKnownAs":` + tooMany): api.ErrTooMany, about(`"controller":` + tooMany + `,"alsoKnownAs":1`): api.ErrShape, about(`"verificationMethod":1,"controller":` + tooMany): api.ErrTooMany, about(`"service":` + tooMany + `,"verificationMethod":1`): api.ErrShape, about(`"service":1,"verificationMethod":` + tooMany): api.ErrTooMany,
		about(`"service":[{"id":"s","type":` + tooMany + `}]`): api.ErrShape, about(`"service":[{"id":"#s","serviceEndpoint":` + tooMany + `,"type":1}]`): api.ErrShape, about(`"service":[` + service + `,{},{"id":"#s","type":` + tooMany + `}]`): api.ErrShape,
	} {
		if got, err := Decode(value(t, s)); !reflect.DeepEqual(got, api.Doc{}) || err != want {
			t.Errorf("Decode(%.90s) = %.80v, %d", s, got, err)
		}
	}
	texts := list(64, `"x"`)
	fits := about(`"alsoKnownAs":` + texts + `,"controller":` + texts + `,"verificationMethod":` + list(64, key) + `,"service":` + list(64, `{"id":"","type":`+texts+`,"serviceEndpoint":`+texts+`}`))
	if d, err := Decode(value(t, fits)); err != api.OK || len(d.Also) != 64 || len(d.Controllers) != 64 || len(d.Methods) != 64 || len(d.Services) != 64 || len(d.Services[9].Types) != 64 || len(d.Services[9].Endpoints) != 64 {
		t.Errorf("at the limits: %d", err)
	}
}

func TestP17_1DecodeRawValues(t *testing.T) {
	str := func(s string) api.Value { return api.Value{Kind: api.JSONString, Text: s} }
	raw := api.Value{Kind: api.JSONObject, Keys: []string{"id", "id", "controller", "service"}, Items: []api.Value{str("did:x:y"), str("")}}
	if d, err := Decode(raw); d.ID != "did:x:y" || err != api.OK {
		t.Errorf("Decode = %+v, %d", d, err)
	}
	raw.Items = append(raw.Items, api.Value{})
	if _, err := Decode(raw); err != api.ErrShape {
		t.Errorf("Decode with a member without a kind: %d", err)
	}
	for _, v := range []api.Value{{}, {Kind: 9}, {Kind: api.JSONArray, Keys: raw.Keys, Items: raw.Items}, {Kind: api.JSONObject, Keys: []string{"id"}}} {
		if _, err := Decode(v); err != api.ErrShape {
			t.Errorf("Decode(%+v) = %d", v, err)
		}
	}
}

var full = api.Doc{
	ID: "did:web:a", Also: []string{"x"}, Controllers: []string{"c"}, Methods: []api.Method{{ID: "did:web:a#k", Type: "T", Controller: "C"}},
	Services: []api.Service{{ID: "did:web:a#s", Types: []string{"T", "U"}, Endpoints: []string{"E"}}, {ID: "did:web:a#t"}},
}

func TestP17_2Encode(t *testing.T) {
	for want, d := range map[string]api.Doc{
		`{"id":""}`: {}, `{"id":"x","controller":["c"]}`: {ID: "x", Also: []string{}, Controllers: []string{"c"}},
		`{"id":"did:web:a","alsoKnownAs":["x"],"controller":["c"],"verificationMethod":[{"id":"did:web:a#k","type":"T","controller":"C"}],"service":[{"id":"did:web:a#s","type":["T","U"],"serviceEndpoint":["E"]},{"id":"did:web:a#t","type":[],"serviceEndpoint":[]}]}`: full,
	} {
		if got := Encode(d); !reflect.DeepEqual(got, value(t, want)) {
			t.Errorf("Encode(%+v) = %+v", d, got)
		}
	}
}

func TestP17_3Select(t *testing.T) {
	s := about(`"service":[{"id":"#s","type":"T","serviceEndpoint":"E"},{"id":"#k","type":"second","serviceEndpoint":"E"},{"id":"did:web:a.%65xample#%74","type":"T","serviceEndpoint":{"deep":[1]}}],"verificationMethod":[{"id":"did:x:y#k","type":"other","controller":""},{"id":"#k","type":"first","controller":""},{"id":"#k","type":"later","controller":""}]`)
	v := value(t, s)
	for id, want := range map[string]string{
		"did:web:a.example#k": `{"id":"#k","type":"first","controller":""}`, "did:x:y#k": `{"id":"did:x:y#k","type":"other","controller":""}`, "did:web:a.example#s": `{"id":"#s","type":"T","serviceEndpoint":"E"}`, "did:web:a.example#t": `{"id":"did:web:a.%65xample#%74","type":"T","serviceEndpoint":{"deep":[1]}}`,
	} {
		if got, ok := Select(v, id); !ok || !reflect.DeepEqual(got, value(t, want)) {
			t.Errorf("Select(%q) = %+v, %v", id, got, ok)
		}
	}
	for _, id := range []string{"", "#k", "did:web:a.example#K", "did:web:a.example", "did:web:a.%65xample#%74", "did:web:a.example#%6b"} {
		if got, ok := Select(v, id); ok || !reflect.DeepEqual(got, api.Value{}) {
			t.Errorf("Select(%q) = %+v, %v", id, got, ok)
		}
	}
	wrong := value(t, strings.Replace(s, `"id":"did:web:a.example"`, `"id":"did:web:a.example","controller":1`, 1))
	if _, ok := Select(wrong, "did:web:a.example#k"); ok {
		t.Error("Select in no document")
	}
	got, _ := Select(v, "did:web:a.example#t")
	got.Keys[0], got.Items[2].Items[0].Items[0].Text = "changed", "changed"
	if !reflect.DeepEqual(v, value(t, s)) {
		t.Error("Select shares memory with its argument")
	}
}

func TestConsequences(t *testing.T) {
	count := 0
	for s := range sample.Mixed(40000, 4, `"controller":"c"`, `"alsoKnownAs":["a"]`, `"service":[`+service+`]`, `"verificationMethod":[`+key+`]`, `"x":1`, `"controller":[]`, ",", ",") {
		v, _, err := jsondoc.Parse(about(s))
		if err != api.OK {
			continue
		}
		d, err := Decode(v)
		back, err2 := Decode(Encode(d))
		if err != api.OK || err2 != api.OK || !reflect.DeepEqual(back, d) {
			t.Errorf("Decode(Encode(Decode(%s))) = %+v, %d, %d", s, back, err, err2)
		}
		count++
	}
	if back, err := Decode(Encode(full)); !reflect.DeepEqual(back, full) || err != api.OK || count < 100 {
		t.Errorf("Decode(Encode(full)) = %+v, %d (%d others)", back, err, count)
	}
}
