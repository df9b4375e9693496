package jrd

import (
	"reflect"
	"strings"
	"testing"

	"webfinger/api"
	"webfinger/jsondoc"
	"webfinger/sample"
)

func value(t *testing.T, s string) api.Value {
	t.Helper()
	v, _, err := jsondoc.Parse(s)
	if err != api.OK {
		t.Fatalf("%q is no JSON text: %d", s, err)
	}
	return v
}

func list(count int, item string) string {
	return "[" + strings.TrimSuffix(strings.Repeat(item+",", count), ",") + "]"
}

func members(count int, item string) string {
	var text strings.Builder
	for i := range count {
		text.WriteString(`,"` + strings.Repeat("k", i) + `":` + item)
	}
	return "{" + strings.TrimPrefix(text.String(), ",") + "}"
}

var full = api.JRD{
	Subject: "acct:a@b.example", Aliases: []string{"x", ""},
	Properties: []api.Property{{Name: "p", Value: "1"}, {Name: "a", Null: true}, {Name: "", Value: ""}},
	Links: []api.Link{
		{Rel: "self", Type: "t", Href: "https://b.example/a", Template: "{uri}", Titles: []api.Property{{Name: "en", Value: "A"}, {Name: "de"}}, Properties: []api.Property{{Name: "q", Null: true}}},
		{},
	},
}

const fullText = `{"subject":"acct:a@b.example","aliases":["x",""],"properties":{"p":"1","a":null,"":""},"links":[` +
	`{"rel":"self","type":"t","href":"https://b.example/a","template":"{uri}","titles":{"en":"A","de":""},"properties":{"q":null}},{"rel":""}]}`

func TestP16_1Decode(t *testing.T) {
	for s, want := range map[string]api.JRD{
		"{}": {}, fullText: full, `{"subject":"","aliases":[],"properties":{},"links":[]}`: {}, `{"Subject":1,"x":[],"link":{}}`: {},
		`{"links":[{"titles":{},"properties":{},"x":1,"rel":"r"}],"subject":"s"}`:              {Subject: "s", Links: []api.Link{{Rel: "r"}}},
		`{"subject":"acct:a@b.example","links":[{"rel":"self","href":"https://b.example/a"}]}`: {Subject: "acct:a@b.example", Links: []api.Link{{Rel: "self", Href: "https://b.example/a"}}},
	} {
		if got, err := Decode(value(t, s)); !reflect.DeepEqual(got, want) || err != api.OK {
			t.Errorf("Decode(%s) = %+v, %d", s, got, err)
		}
	}
}

func TestP16_1DecodeErrors(t *testing.T) {
	many, tooMany := list(64, `"a"`), list(65, "1")
	for s, want := range map[string]api.Errno{
		"null": api.ErrShape, "[]": api.ErrShape, `"x"`: api.ErrShape, `{"subject":1}`: api.ErrShape, `{"subject":null}`: api.ErrShape, `{"aliases":"a"}`: api.ErrShape, `{"aliases":{}}`: api.ErrShape, `{"aliases":["a",null]}`: api.ErrShape, `{"aliases":null}`: api.ErrShape,
		`{"properties":[]}`: api.ErrShape, `{"properties":{"a":true}}`: api.ErrShape, `{"properties":{"a":1}}`: api.ErrShape, `{"links":{}}`: api.ErrShape, `{"links":[1]}`: api.ErrShape, `{"links":[[]]}`: api.ErrShape, `{"links":[{}]}`: api.ErrShape, `{"links":[{"rel":1}]}`: api.ErrShape, `{"links":[{"rel":null}]}`: api.ErrShape,
		`{"links":[{"rel":"r","type":1}]}`: api.ErrShape, `{"links":[{"rel":"r","href":null}]}`: api.ErrShape, `{"links":[{"rel":"r","template":[]}]}`: api.ErrShape, `{"links":[{"rel":"r","titles":[]}]}`: api.ErrShape, `{"links":[{"rel":"r","titles":{"a":null}}]}`: api.ErrShape, `{"links":[{"rel":"r","properties":{"a":{}}}]}`: api.ErrShape,
		`{"aliases":` + tooMany + `}`: api.ErrTooMany, `{"properties":` + members(65, "1") + `}`: api.ErrTooMany, `{"links":` + tooMany + `}`: api.ErrTooMany, `{"links":[{"rel":"r","titles":` + members(65, "1") + `}]}`: api.ErrTooMany, `{"links":[{"rel":"r","properties":` + members(65, "1") + `}]}`: api.ErrTooMany,
		// The order of the members of the document counts, not that of the text.
		`{"aliases":` + tooMany + `,"subject":1}`: api.ErrShape, `{"properties":1,"aliases":` + tooMany + `}`: api.ErrTooMany, `{"links":` + tooMany + `,"properties":1}`: api.ErrShape, `{"links":1,"properties":` + members(65, `""`) + `}`: api.ErrTooMany,
		`{"links":[{"rel":"r","titles":` + members(65, "1") + `},{}]}`: api.ErrTooMany, `{"links":[{},{"rel":"r","titles":` + members(65, "1") + `}]}`: api.ErrShape, `{"links":[{"titles":` + members(65, "1") + `}]}`: api.ErrShape, `{"links":[{"rel":"r","properties":1,"titles":` + members(65, "1") + `}]}`: api.ErrTooMany, `{"links":[{"rel":"r","template":1,"titles":` + members(65, "1") + `}]}`: api.ErrShape, `{"links":[{"rel":"r","titles":1,"properties":` + members(65, "1") + `}]}`: api.ErrShape,
	} {
		if got, err := Decode(value(t, s)); !reflect.DeepEqual(got, api.JRD{}) || err != want {
			t.Errorf("Decode(%.80s) = %.80v, %d", s, got, err)
		}
	}
	fits := `{"aliases":` + many + `,"properties":` + members(64, "null") + `,"links":` + list(64, `{"rel":"r","titles":`+members(64, `"t"`)+`,"properties":`+members(64, "null")+`}`) + `}`
	if got, err := Decode(value(t, fits)); err != api.OK || len(got.Aliases) != 64 || len(got.Properties) != 64 || len(got.Links) != 64 || len(got.Links[63].Titles) != 64 || len(got.Links[63].Properties) != 64 {
		t.Errorf("at the limits: %d", err)
	}
}

func TestP16_1DecodeRawValues(t *testing.T) {
	str := func(s string) api.Value { return api.Value{Kind: api.JSONString, Text: s} }
	keys := strings.Split(strings.Repeat("k", 99), "")
	properties := api.Value{Kind: api.JSONObject, Keys: keys, Items: []api.Value{str("1"), {Kind: api.JSONNull, Text: "x"}}}
	raw := api.Value{Kind: api.JSONObject, Keys: []string{"subject", "subject", "properties", "aliases"}, Items: []api.Value{str("first"), {}, properties}}
	want := api.JRD{Subject: "first", Properties: []api.Property{{Name: "k", Value: "1"}, {Name: "k", Null: true}}}
	if got, err := Decode(raw); !reflect.DeepEqual(got, want) || err != api.OK {
		t.Errorf("Decode = %+v, %d", got, err)
	}
	for _, v := range []api.Value{{}, {Kind: 9}, {Kind: api.JSONArray, Keys: raw.Keys, Items: raw.Items}} {
		if _, err := Decode(v); err != api.ErrShape {
			t.Errorf("Decode(%+v) = %d", v, err)
		}
	}
}

func TestP16_2Encode(t *testing.T) {
	if got, want := Encode(full), value(t, fullText); !reflect.DeepEqual(got, want) {
		t.Errorf("Encode = %+v", got)
	}
	for want, j := range map[string]api.JRD{
		"{}": {}, `{"links":[{"rel":""}]}`: {Aliases: []string{}, Properties: []api.Property{}, Links: []api.Link{{Titles: []api.Property{}}}}, `{"properties":{"a":null}}`: {Properties: []api.Property{{Name: "a", Value: "x", Null: true}}},
	} {
		if got := Encode(j); !reflect.DeepEqual(got, value(t, want)) {
			t.Errorf("Encode(%+v) = %+v", j, got)
		}
	}
}

func TestP16_3Find(t *testing.T) {
	j := api.JRD{Links: []api.Link{{Rel: "a", Href: "1"}, {Rel: "b", Titles: []api.Property{{Name: "t"}}, Properties: []api.Property{{Name: "p"}}}, {Rel: "a", Href: "2"}, {Rel: "A"}, {Rel: ""}}}
	for rel, want := range map[string][]api.Link{"a": {{Rel: "a", Href: "1"}, {Rel: "a", Href: "2"}}, "b": {j.Links[1]}, "c": nil, "": {{}}} {
		if got := Find(j, rel); !reflect.DeepEqual(got, want) {
			t.Errorf("Find(%q) = %+v", rel, got)
		}
	}
	found := Find(j, "b")[0]
	found.Titles[0].Name, found.Properties[0].Name = "changed", "changed"
	if j.Links[1].Titles[0].Name != "t" || j.Links[1].Properties[0].Name != "p" {
		t.Error("Find shares memory with its argument")
	}
}

func TestConsequences(t *testing.T) {
	count := 0
	for s := range sample.Mixed(40000, 4, `"subject":"s"`, `"aliases":["a"]`, `"links":[{"rel":"r"},{"href":"h","rel":""}]`, `"properties":{"p":null}`, `"links":[]`, `"x":1`, ",", ",") {
		v, _, err := jsondoc.Parse("{" + s + "}")
		if err != api.OK {
			continue
		}
		j, err := Decode(v)
		back, err2 := Decode(Encode(j))
		if err != api.OK || err2 != api.OK || !reflect.DeepEqual(back, j) {
			t.Errorf("Decode(Encode(Decode(%s))) = %+v, %d, %d", s, back, err, err2)
		}
		count++
	}
	if back, err := Decode(Encode(full)); !reflect.DeepEqual(back, full) || err != api.OK || count < 100 {
		t.Errorf("Decode(Encode(full)) = %+v, %d (%d others)", back, err, count)
	}
	a, _ := Decode(value(t, `{"x":{},"links":[{"href":"h","rel":"r","y":0}],"subject":"s"}`))
	b, _ := Decode(value(t, `{"subject":"s","links":[{"rel":"r","href":"h"}]}`))
	if !reflect.DeepEqual(a, b) {
		t.Errorf("the order of members counts: %+v, %+v", a, b)
	}
}
