package jsondoc

import (
	"encoding/json"
	"reflect"
	"strings"
	"testing"

	"webfinger/api"
	"webfinger/sample"
)

func str(s string) api.Value { return api.Value{Kind: api.JSONString, Text: s} }
func num(s string) api.Value { return api.Value{Kind: api.JSONNumber, Text: s} }
func arr(items ...api.Value) api.Value {
	return api.Value{Kind: api.JSONArray, Items: items}
}
func obj(keys []string, items ...api.Value) api.Value {
	return api.Value{Kind: api.JSONObject, Keys: keys, Items: items}
}

var null = api.Value{Kind: api.JSONNull}

func TestP14_1Parse(t *testing.T) {
	for s, want := range map[string]api.Value{
		"null": null, " true\n": {Kind: api.JSONTrue}, "false": {Kind: api.JSONFalse}, "-1.50": num("-15e-1"), `"\u0041"`: str("A"), "[]": arr(), "{}": obj(nil), "[ ]": arr(), "{ }": obj(nil),
		`{"a":[1,2.50],"b":null}`:  obj([]string{"a", "b"}, arr(num("1"), num("25e-1")), null),
		`[[],{},[[]],{"":{"":1}}]`: arr(arr(), obj(nil), arr(arr()), obj([]string{""}, obj([]string{""}, num("1")))),
		`{"b":1,"a":{"b":2}}`:      obj([]string{"b", "a"}, num("1"), obj([]string{"b"}, num("2"))),
		" [ 0 , \"x\" ]\r\n\t":     arr(num("0"), str("x")),
	} {
		if got, at, err := Parse(s); !reflect.DeepEqual(got, want) || at != len(s) || err != api.OK {
			t.Errorf("Parse(%q) = %+v, %d, %d", s, got, at, err)
		}
	}
}

type wrongText struct {
	s   string
	at  int
	err api.Errno
}

func checkWrong(t *testing.T, cases []wrongText) {
	t.Helper()
	for _, c := range cases {
		if got, at, err := Parse(c.s); !reflect.DeepEqual(got, api.Value{}) || at != c.at || err != c.err {
			t.Errorf("Parse(%.60q) = %.60v, %d, %d", c.s, got, at, err)
		}
	}
}

func TestP14_1ParseErrors(t *testing.T) {
	checkWrong(t, []wrongText{
		{"", 0, api.ErrSyntax}, {" ", 1, api.ErrSyntax}, {"1 2", 2, api.ErrSyntax}, {"[1,]", 3, api.ErrSyntax}, {"[,1]", 1, api.ErrSyntax}, {"[1 2]", 3, api.ErrSyntax}, {"[1", 2, api.ErrSyntax}, {"[", 1, api.ErrSyntax}, {"]", 0, api.ErrSyntax}, {"[}", 1, api.ErrSyntax}, {"[1}", 2, api.ErrSyntax}, {"[1:2]", 2, api.ErrSyntax}, {"[]]", 2, api.ErrSyntax}, {"01", 1, api.ErrSyntax},
		{"{", 1, api.ErrSyntax}, {"{]", 1, api.ErrSyntax}, {"{1:2}", 1, api.ErrSyntax}, {`{"a"}`, 4, api.ErrSyntax}, {`{"a" 1}`, 5, api.ErrSyntax}, {`{"a":}`, 5, api.ErrSyntax}, {`{"a":1,}`, 7, api.ErrSyntax}, {`{"a":1 "b":2}`, 7, api.ErrSyntax}, {`{"a":1]`, 6, api.ErrSyntax}, {`{,}`, 1, api.ErrSyntax}, {`{"a":1,2`, 7, api.ErrSyntax}, {`{"a":1`, 6, api.ErrSyntax}, {`{"a":`, 5, api.ErrSyntax}, {`{"a"`, 4, api.ErrSyntax}, {`{true:1}`, 1, api.ErrSyntax}, {`["]"`, 4, api.ErrSyntax}, {`[1"]"`, 2, api.ErrSyntax}, {`{"a"":"1}`, 4, api.ErrSyntax}, {`[1","2]`, 2, api.ErrSyntax}, {`{"}"`, 4, api.ErrSyntax}, {":", 0, api.ErrSyntax}, {",", 0, api.ErrSyntax}, {`"a":1`, 3, api.ErrSyntax}, {`{"a",1}`, 4, api.ErrSyntax},
		{"?", 0, api.ErrToken}, {"  ?", 0, api.ErrToken}, {"[1,  ?]", 3, api.ErrToken}, {"[  tru]", 1, api.ErrToken}, {"[1] x", 3, api.ErrToken}, {`{"a": "\x"}`, 5, api.ErrToken}, {"[\"\xff\"]", 1, api.ErrUTF8}, {"1.", 1, api.ErrToken}, {"[1,\"", 3, api.ErrToken}, {"\xef\xbb\xbf1", 0, api.ErrToken},
		{`{"a":1,"a":2}`, 7, api.ErrDuplicate}, {`{"a":1, "\u0061" 2}`, 8, api.ErrDuplicate}, {`{"":1,"":`, 6, api.ErrDuplicate}, {`[{"a":1},{"a":1,"a"`, 16, api.ErrDuplicate},
		{"[ 1e401]", 2, api.ErrNumber}, {`{"a":` + strings.Repeat("1", 41) + "}", 5, api.ErrNumber}, {`1e401x`, 0, api.ErrNumber}, {`[1 1e401`, 3, api.ErrSyntax},
		{strings.Repeat(" ", api.MaxBody+1), 0, api.ErrTooLarge}, {"?" + strings.Repeat(" ", api.MaxBody), 0, api.ErrTooLarge}, {strings.Repeat(" ", api.MaxBody), api.MaxBody, api.ErrSyntax},
	})
}

func TestP14_1ParseDepth(t *testing.T) {
	deep := strings.Repeat("[", 63) + `{"a":1}` + strings.Repeat("]", 63)
	if v, at, err := Parse(deep); err != api.OK || at != len(deep) || v.Kind != api.JSONArray {
		t.Errorf("depth 64: %d, %d", at, err)
	}
	checkWrong(t, []wrongText{
		{strings.Repeat("[", 65), 64, api.ErrTooDeep}, {strings.Repeat("[", 64) + "{", 64, api.ErrTooDeep}, {strings.Repeat("[", 64) + " [", 65, api.ErrTooDeep}, {strings.Repeat(`{"a":`, 65), 64 * 5, api.ErrTooDeep}, {strings.Repeat("[", 64) + "1", 65, api.ErrSyntax}, {strings.Repeat("[", 64) + "{]", 64, api.ErrTooDeep}, {strings.Repeat("[", 65) + "?", 64, api.ErrTooDeep},
	})
}

func TestP14_1ParseNodes(t *testing.T) {
	full := "[1" + strings.Repeat(",1", api.MaxNodes-2) + "]"
	if v, at, err := Parse(full); err != api.OK || at != len(full) || len(v.Items) != api.MaxNodes-1 {
		t.Errorf("MaxNodes values: %d, %d", at, err)
	}
	open := full[:len(full)-1]
	checkWrong(t, []wrongText{
		{open + ",1]", len(open) + 1, api.ErrTooLarge}, {open + ",[", len(open) + 1, api.ErrTooLarge}, {open + ",1e999", len(open) + 1, api.ErrNumber}, {open + ",]", len(open) + 1, api.ErrSyntax}, {open + ",?", len(open) + 1, api.ErrToken}, {open, len(open), api.ErrSyntax}, {strings.Repeat("[", 64) + strings.Repeat("[],", api.MaxNodes), 64, api.ErrTooDeep},
	})
}

func TestP14_1ParseAgreesWithGo(t *testing.T) {
	for s := range sample.Texts(6, "{", "}", "[", "]", ":", ",", `"a"`, "1", " ") {
		v, at, err := Parse(s)
		isDuplicate := err == api.ErrDuplicate
		if (err == api.OK) != json.Valid([]byte(s)) && !isDuplicate {
			t.Errorf("Parse(%q) = %+v, %d, %d", s, v, at, err)
		}
		if err != api.OK && (at > len(s) || !reflect.DeepEqual(v, api.Value{})) {
			t.Errorf("Parse(%q) = %+v, %d, %d", s, v, at, err)
		}
	}
}

func TestP14_2Get(t *testing.T) {
	v := obj([]string{"a", "b", "a", "c"}, num("1"), arr(str("x")), num("2"))
	for key, want := range map[string]api.Value{"a": num("1"), "b": arr(str("x"))} {
		if got, ok := Get(v, key); !ok || !reflect.DeepEqual(got, want) {
			t.Errorf("Get(%q) = %+v, %v", key, got, ok)
		}
	}
	array := v
	array.Kind = api.JSONArray
	for _, c := range []struct {
		v   api.Value
		key string
	}{{v, "c"}, {v, "d"}, {v, ""}, {array, "a"}, {api.Value{}, ""}, {null, "a"}} {
		if got, ok := Get(c.v, c.key); ok || !reflect.DeepEqual(got, api.Value{}) {
			t.Errorf("Get(%q) = %+v, %v", c.key, got, ok)
		}
	}
	deep := obj([]string{"o"}, obj([]string{"k"}, arr(arr(str("x")))))
	got, _ := Get(deep, "o")
	got.Keys[0], got.Items[0].Items[0].Items[0].Text = "changed", "changed"
	if deep.Items[0].Keys[0] != "k" || deep.Items[0].Items[0].Items[0].Items[0].Text != "x" {
		t.Error("Get shares memory with its argument")
	}
}

func TestP14_3Equal(t *testing.T) {
	texts := []string{"null", "true", "false", "1", "2", `"1"`, `""`, "[]", "{}", "[1]", "[1,2]", "[2,1]", "[[]]", `{"a":1}`, `{"a":2}`, `{"b":1}`, `{"a":1,"b":2}`, `{"a":{"x":[1]}}`, `{"a":{"x":[2]}}`}
	for i, a := range texts {
		for j, b := range texts {
			v, _, _ := Parse(a)
			w, _, _ := Parse(b)
			if Equal(v, w) != (i == j) {
				t.Errorf("Equal(%s, %s) = %v", a, b, i != j)
			}
		}
	}
	for a, b := range map[string]string{`{"a":1,"b":[2]}`: ` { "b" : [ 2.0 ] , "a" : 10e-1 } `, `"A"`: `"\u0041"`, `[0]`: `[-0.0e5]`} {
		v, _, _ := Parse(a)
		w, _, _ := Parse(b)
		if !Equal(v, w) || !Equal(w, v) {
			t.Errorf("Equal(%s, %s) is false", a, b)
		}
	}
	for _, v := range []api.Value{{}, {Kind: 8}, {Kind: -1}, arr(api.Value{}), obj([]string{"a"}), obj([]string{"a", "b"}, null), obj([]string{"a"}, api.Value{})} {
		if Equal(v, v) {
			t.Errorf("Equal of %+v with itself", v)
		}
	}
	if !Equal(api.Value{Kind: api.JSONNull, Text: "x"}, null) || !Equal(obj([]string{"a"}, num("1"), num("2")), obj([]string{"a"}, num("1"))) {
		t.Error("Equal looks at more than it should")
	}
}

func TestEqualEndsForRepeatedKeys(t *testing.T) {
	v := num("1")
	for range 2000 {
		v = obj([]string{"a", "a"}, v, null)
	}
	if !Equal(v, v) {
		t.Error("Equal of repeated keys")
	}
}
