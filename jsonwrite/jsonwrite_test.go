package jsonwrite

import (
	"reflect"
	"slices"
	"strings"
	"testing"

	"webfinger/api"
	"webfinger/jsondoc"
	"webfinger/sample"
)

func str(s string) api.Value { return api.Value{Kind: api.JSONString, Text: s} }
func num(s string) api.Value { return api.Value{Kind: api.JSONNumber, Text: s} }
func arr(items ...api.Value) api.Value {
	return api.Value{Kind: api.JSONArray, Items: items}
}
func obj(keys []string, items ...api.Value) api.Value {
	return api.Value{Kind: api.JSONObject, Keys: keys, Items: items}
}

var null = api.Value{Kind: api.JSONNull}

func nested(depth int) api.Value {
	v := num("1")
	for range depth {
		v = arr(v)
	}
	return v
}

func nulls(count int) []api.Value {
	items := make([]api.Value, count)
	for i := range items {
		items[i] = null
	}
	return items
}

func TestP15_1Valid(t *testing.T) {
	for _, v := range []api.Value{
		null, {Kind: api.JSONTrue}, {Kind: api.JSONFalse}, num("0"), num("-15e2"), num("1e400"), str(""), str("ä\x00"), arr(), obj(nil), obj([]string{}, []api.Value{}...), arr(null, str("x")), obj([]string{"b", "a", ""}, null, null, null), nested(64), arr(nulls(api.MaxNodes - 1)...), {Kind: api.JSONString, Keys: []string{}, Items: []api.Value{}},
	} {
		if !Valid(v) {
			t.Errorf("%.60v is not valid", v)
		}
	}
	for _, v := range invalid() {
		if Valid(v) {
			t.Errorf("%.60v is valid", v)
		}
		if Valid(arr(null, v)) || Valid(obj([]string{"a"}, v)) {
			t.Errorf("%.60v is valid inside another value", v)
		}
	}
	objects := null
	for range 64 {
		objects = obj([]string{"a"}, objects)
	}
	if !Valid(objects) || Valid(arr(objects)) || Valid(obj([]string{"a"}, objects)) {
		t.Error("Valid of nested objects")
	}
	if !Valid(arr(nested(63))) || Valid(obj([]string{"a"}, nested(64))) {
		t.Error("Valid at the greatest depth")
	}
	if Valid(arr(arr(nulls(api.MaxNodes/2)...), arr(nulls(api.MaxNodes/2)...))) {
		t.Error("Valid with too many values in two arrays")
	}
}

func invalid() []api.Value {
	return []api.Value{
		{}, {Kind: 8}, {Kind: -1}, {Kind: api.JSONNull, Text: "x"}, {Kind: api.JSONTrue, Text: "true"}, {Kind: api.JSONFalse, Items: []api.Value{null}}, {Kind: api.JSONNull, Keys: []string{"a"}}, {Kind: api.JSONTrue, Keys: []string{"a"}, Items: []api.Value{null}},
		num(""), num("1.0"), num("10"), num("-0"), num("1E2"), num("x"), num("01"), num("1e401"), {Kind: api.JSONNumber, Text: "1", Items: []api.Value{null}}, {Kind: api.JSONNumber, Text: "1", Keys: []string{""}},
		str("\xff"), str("a\xc3"), {Kind: api.JSONString, Text: "a", Items: []api.Value{null}}, {Kind: api.JSONString, Keys: []string{"a"}},
		{Kind: api.JSONArray, Text: "x"}, {Kind: api.JSONArray, Keys: []string{"a"}}, {Kind: api.JSONArray, Keys: []string{"a"}, Items: []api.Value{null}},
		{Kind: api.JSONObject, Text: "x"}, obj([]string{"a"}), obj(nil, null), obj([]string{"a", "b"}, null), obj([]string{"a"}, null, null), obj([]string{"a", "a"}, null, null), obj([]string{"a", "b", "a"}, null, null, null), obj([]string{"\xff"}, null),
		arr(nulls(api.MaxNodes)...), nested(65), nested(500),
	}
}

func TestP15_1Canonical(t *testing.T) {
	v := obj([]string{"b", "a", "", "B", "ä", "aa"}, num("1"), obj([]string{"y", "x"}, null, arr(obj([]string{"2", "1"}, str("two"), str("one")))), null, null, null, null)
	want := obj([]string{"", "B", "a", "aa", "b", "ä"}, null, null, obj([]string{"x", "y"}, arr(obj([]string{"1", "2"}, str("one"), str("two"))), null), null, num("1"), null)
	got := Canonical(v)
	if !reflect.DeepEqual(got, want) {
		t.Errorf("Canonical = %+v", got)
	}
	got.Items[2].Items[0].Items[0].Items[0].Text, got.Keys[0] = "changed", "changed"
	if v.Items[1].Items[1].Items[0].Items[1].Text != "one" || v.Keys[2] != "" {
		t.Error("Canonical shares memory with its argument")
	}
	for _, v := range invalid() {
		if got := Canonical(v); !reflect.DeepEqual(got, api.Value{}) {
			t.Errorf("Canonical(%.60v) = %.60v", v, got)
		}
	}
}

func TestP15_2Write(t *testing.T) {
	for want, v := range map[string]api.Value{
		"null": null, "true": {Kind: api.JSONTrue}, "false": {Kind: api.JSONFalse}, "-15e-1": num("-15e-1"), `"\"ä\u0001\n/"`: str("\"ä\x01\n/"), "[]": arr(), "{}": obj(nil), `[1,[],"x"]`: arr(num("1"), arr(), str("x")),
		`{"\n":2,"A":1,"a":{"":null,"b":[]}}`: obj([]string{"a", "A", "\n"}, obj([]string{"b", ""}, arr(), null), num("1"), num("2")),
	} {
		if got, err := Write(v); got != want || err != api.OK {
			t.Errorf("Write(%+v) = %q, %d", v, got, err)
		}
	}
	v, _, _ := jsondoc.Parse(`{ "b" : 1.0 , "a" : "\u0041" }`)
	if got, err := Write(v); got != `{"a":"A","b":1}` || err != api.OK {
		t.Errorf("Write = %q, %d", got, err)
	}
	for _, v := range invalid() {
		if got, err := Write(v); got != "" || err != api.ErrInvalid {
			t.Errorf("Write(%.60v) = %.60q, %d", v, got, err)
		}
	}
}

func TestP15_2WriteLimit(t *testing.T) {
	most := strings.Repeat("x", api.MaxBody-2)
	if got, err := Write(str(most)); len(got) != api.MaxBody || err != api.OK {
		t.Errorf("at the limit: %d, %d", len(got), err)
	}
	for _, v := range []api.Value{
		str(most + "x"), arr(str(most)), str(strings.Repeat("\n", api.MaxBody/2)), str(most + most), arr(str(most[1:]), null), arr(str(most), str(most)), obj([]string{most}, null), arr(str(most[:len(most)-2]), null), arr(str(most+"xx"), null),
	} {
		if got, err := Write(v); got != "" || err != api.ErrTooLarge {
			t.Errorf("Write of %d bytes = %d bytes, %d", len(v.Text), len(got), err)
		}
	}
	if _, err := Write(arr(str(most+most), str("\xff"))); err != api.ErrInvalid {
		t.Errorf("Write of a long value that is not valid: %d", err)
	}
}

func TestConsequences(t *testing.T) {
	texts := map[string][]api.Value{}
	for s := range sample.Mixed(60000, 9, "{", "}", "[", "]", `"a":`, `"b":`, ",", "1.0", "1", "{}", `"\u0061"`, "null", " ") {
		v, _, err := jsondoc.Parse(s)
		if err != api.OK {
			continue
		}
		text, err := Write(v)
		back, _, err2 := jsondoc.Parse(text)
		if err != api.OK || err2 != api.OK || !reflect.DeepEqual(back, Canonical(v)) {
			t.Errorf("Parse(Write(%q)) = %+v, %d, %d", s, back, err, err2)
		}
		if again, _ := Write(back); again != text {
			t.Errorf("Write(Parse(%q)) = %q", text, again)
		}
		texts[text] = append(texts[text], v)
	}
	if len(texts) < 20 {
		t.Fatalf("only %d different texts", len(texts))
	}
	for text, values := range texts {
		if i := slices.IndexFunc(values, func(v api.Value) bool { return !jsondoc.Equal(v, values[0]) }); i >= 0 {
			t.Errorf("%q is the text of different values", text)
		}
	}
}
