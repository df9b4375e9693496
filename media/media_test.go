package media

import (
	"mime"
	"reflect"
	"regexp"
	"testing"

	"webfinger/api"
	"webfinger/sample"
)

func TestP20_1Parse(t *testing.T) {
	for s, want := range map[string]api.Media{
		"a/b": {Type: "a", Sub: "b"}, " \tA/B\t ": {Type: "a", Sub: "b"}, "a!#/+b;c=d": {Type: "a!#", Sub: "+b", Params: []api.Field{{Name: "c", Value: "d"}}},
		" Application/JRD+json ; charset=\"UTF-8\"":         {Type: "application", Sub: "jrd+json", Params: []api.Field{{Name: "charset", Value: "UTF-8"}}},
		"a/b;X=Y \t;\t z=\"\";x=\"a\\\"\\\\\\b;, \xff\t\" ": {Type: "a", Sub: "b", Params: []api.Field{{Name: "x", Value: "Y"}, {Name: "z"}, {Name: "x", Value: "a\"\\b;, \xff\t"}}},
	} {
		if got, err := Parse(s); !reflect.DeepEqual(got, want) || err != api.OK {
			t.Errorf("Parse(%q) = %+v, %d", s, got, err)
		}
	}
	for _, s := range []string{
		"", " ", "a", "/", "a/", "/b", "a /b", "a/ b", "a/b/c", "a/b c", "a/b;", "a/b; ", "a/b;;c=d", ";a/b", "a/b;c", "a/b;c=", "a/b;=d", "a/b;c =d", "a/b;c= d", "a/b;c=d e", "a/b,c/d", "a/b;c=\"", "a/b;c=\"d", "a/b;c=\"d\"e", "a/b;c=\"\n\"", "a/b;c=\"\\\x7f\"", "a/b;c=\"\\", "a/b\n", "\va/b", "a(/b", "a/ä", "a/b;ä=c", "a/b;c=ä", "a/b;c='d e'", "\"a\"/b", "a/b;\"c\"=d",
	} {
		if got, err := Parse(s); !reflect.DeepEqual(got, api.Media{}) || err != api.ErrMedia {
			t.Errorf("Parse(%q) = %+v, %d", s, got, err)
		}
	}
}

func TestP20_1ParseAgreesWithItsGrammar(t *testing.T) {
	grammar := regexp.MustCompile(`^ *[aB]+/[aB]+( *; *[aB]+=([aB]+|"[aB; /=]*"))* *$`)
	for s := range sample.Texts(6, "/", ";", "a", "B", "=", `"`, " ") {
		s = "a/B" + s
		m, err := Parse(s)
		if (err == api.OK) != grammar.MatchString(s) {
			t.Errorf("Parse(%q) = %+v, %d", s, m, err)
		}
		if err != api.OK {
			continue
		}
		if again, err := Parse(Format(m)); !reflect.DeepEqual(again, m) || err != api.OK {
			t.Errorf("Parse(Format(%+v)) = %+v, %d", m, again, err)
		}
		if kind, _, wrong := mime.ParseMediaType(s); wrong == nil && kind != m.Type+"/"+m.Sub {
			t.Errorf("Parse(%q) = %+v", s, m)
		}
	}
}

func TestP20_2IsJRDAndIsDID(t *testing.T) {
	for s, want := range map[string][2]bool{
		"application/jrd+json": {true, false}, "Application/JSON": {true, true}, "application/did+json": {false, true}, "application/did+ld+json": {false, true}, "application/ld+json": {}, "text/json": {}, "application/xml": {}, "application/jrd": {}, "json/application": {},
		"application/json; charset=utf-8": {true, true}, "application/json;CHARSET=\"uTF-8\"": {true, true}, "application/json;charset=utf8": {}, "application/json;charset=\"\"": {}, "application/json;charset=utf-8;charset=latin1": {}, "application/json;charset=utf-8;charset=UTF-8": {true, true}, "application/json;x=latin1": {true, true}, "application/json;charset=\" utf-8\"": {},
	} {
		m, err := Parse(s)
		if err != api.OK || IsJRD(m) != want[0] || IsDID(m) != want[1] {
			t.Errorf("%q: %v, %v", s, IsJRD(m), IsDID(m))
		}
	}
	if m := (api.Media{}); IsJRD(m) || IsDID(m) {
		t.Error("the zero value has a media type")
	}
}

func TestP20_3Format(t *testing.T) {
	for want, m := range map[string]api.Media{
		"/": {}, "a/b": {Type: "a", Sub: "b"}, `A/b; x=y; z=""; q="a\"\\ ;"; =1`: {Type: "A", Sub: "b", Params: []api.Field{{Name: "x", Value: "y"}, {Name: "z"}, {Name: "q", Value: `a"\ ;`}, {Value: "1"}}},
	} {
		if got := Format(m); got != want {
			t.Errorf("Format(%+v) = %q", m, got)
		}
	}
}
