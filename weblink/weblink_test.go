package weblink

import (
	"reflect"
	"regexp"
	"strings"
	"testing"

	"webfinger/api"
	"webfinger/sample"
)

func TestP22_1Parse(t *testing.T) {
	for s, want := range map[string][]api.WebLink{
		"": nil, " \t": nil, ", ,": nil, "<>": {{}}, " ,<a>,, <b>\t": {{Target: "a"}, {Target: "b"}},
		`<https://a.example/x>; rel="lrdd Other"; type=t, <y>`: {{Target: "https://a.example/x", Rels: []string{"lrdd", "other"}, Params: []api.Field{{Name: "rel", Value: "lrdd Other"}, {Name: "type", Value: "t"}}}, {Target: "y"}},
		"<a,b;c=\"d\"\xff <\t>":                                {{Target: "a,b;c=\"d\"\xff <\t"}},
		"<a>;REL \t=\t LRDD ; x;y= \"\" ,<b>":                  {{Target: "a", Rels: []string{"lrdd"}, Params: []api.Field{{Name: "rel", Value: "LRDD"}, {Name: "x"}, {Name: "y"}}}, {Target: "b"}},
		"<a> ; rel=\"\t A  b\t\" ;rel=c":                       {{Target: "a", Rels: []string{"a", "b"}, Params: []api.Field{{Name: "rel", Value: "\t A  b\t"}, {Name: "rel", Value: "c"}}}},
		"<a>;rel;rel=c":                                        {{Target: "a", Params: []api.Field{{Name: "rel"}, {Name: "rel", Value: "c"}}}},
		`<a>;rel=" "`:                                          {{Target: "a", Params: []api.Field{{Name: "rel", Value: " "}}}},
		`<a>;x="\"\\,<>;",<b>`:                                 {{Target: "a", Params: []api.Field{{Name: "x", Value: `"\,<>;`}}}, {Target: "b"}},
		`<a>;rel="x\y"`:                                        {{Target: "a", Rels: []string{"xy"}, Params: []api.Field{{Name: "rel", Value: "xy"}}}},
		"<a>;rel=\"\xc3\x84 Z\"":                               {{Target: "a", Rels: []string{"\xc3\x84", "z"}, Params: []api.Field{{Name: "rel", Value: "\xc3\x84 Z"}}}},
		"<a>,<b>;rel=c" + strings.Repeat(",", 99):              {{Target: "a"}, {Target: "b", Rels: []string{"c"}, Params: []api.Field{{Name: "rel", Value: "c"}}}},
	} {
		if got, err := Parse(s); !reflect.DeepEqual(got, want) || err != api.OK {
			t.Errorf("Parse(%q) = %+v, %d", s, got, err)
		}
	}
}

func TestP22_1ParseErrors(t *testing.T) {
	full := strings.Repeat("<a>,", api.MaxLinks)
	if got, err := Parse(full); len(got) != api.MaxLinks || err != api.OK {
		t.Errorf("MaxLinks links: %d, %d", len(got), err)
	}
	for s, want := range map[string]api.Errno{
		"a": api.ErrForm, "<": api.ErrForm, "<a": api.ErrForm, "<a\n>": api.ErrForm, "<\x7f>": api.ErrForm, "<\x00>": api.ErrForm, "<a> <b>": api.ErrForm, "<a><b>": api.ErrForm, "<a>x": api.ErrForm, "<a>;": api.ErrForm, "<a>; ": api.ErrForm, "<a>;;x": api.ErrForm, "<a>;,<b>": api.ErrForm, "<a>;=x": api.ErrForm, "<a>;x=": api.ErrForm, "<a>;x= ": api.ErrForm, "<a>;x=,<b>": api.ErrForm, "<a>;x=y z": api.ErrForm, "<a>;x y": api.ErrForm, `<a>;x="`: api.ErrForm, `<a>;x="y`: api.ErrForm, `<a>;x="y"z`: api.ErrForm, "<a>;x=\"\n\"": api.ErrForm, `<a>;"x"=y`: api.ErrForm, "<a>;ä=y": api.ErrForm, "<a>;x==y": api.ErrForm, "<a>\n": api.ErrForm, ";<a>": api.ErrForm, ",<a": api.ErrForm, " ,<a>,<b>;": api.ErrForm, "=": api.ErrForm,
		full + "<": api.ErrTooMany, full + "<a>": api.ErrTooMany, full + ", <\n": api.ErrTooMany, full + "x<a>": api.ErrForm, full + ";": api.ErrForm, "?" + full + "<": api.ErrForm,
	} {
		if got, err := Parse(s); got != nil || err != want {
			t.Errorf("Parse(%q) = %+v, %d", s, got, err)
		}
	}
}

func TestP22_1ParseAgreesWithItsGrammar(t *testing.T) {
	link := `<[^>]*>( *; *[aB]+( *= *([aB]+|"[^"]*"))?)*`
	grammar := regexp.MustCompile(`^ *(` + link + `)? *(, *(` + link + `)? *)*$`)
	for s := range sample.Texts(6, ";", ",", "a", "=", `"`, " ", "<B>", ">") {
		s = "<a>" + s
		got, err := Parse(s)
		if (err == api.OK) != grammar.MatchString(s) {
			t.Errorf("Parse(%q) = %+v, %d", s, got, err)
		}
		if err != api.OK {
			continue
		}
		if again, err := Parse(Format(got)); !reflect.DeepEqual(again, got) || err != api.OK {
			t.Errorf("Parse(Format(%+v)) = %+v, %d", got, again, err)
		}
	}
}

func TestP22_2Find(t *testing.T) {
	list := []api.WebLink{{Target: "0"}, {Target: "1", Rels: []string{"a", "Lrdd"}}, {Target: "2", Rels: []string{"lrdd"}}, {Target: "", Rels: []string{"empty"}}, {Target: "3", Params: []api.Field{{Name: "rel", Value: "x"}}}}
	for rel, want := range map[string]string{"lrdd": "1", "LRDD": "1", "a": "1"} {
		if got, ok := Find(list, rel); got != want || !ok {
			t.Errorf("Find(%q) = %q, %v", rel, got, ok)
		}
	}
	if got, ok := Find(list, "empty"); got != "" || !ok {
		t.Errorf("Find(empty) = %q, %v", got, ok)
	}
	for _, rel := range []string{"", "x", "lrd", "a lrdd"} {
		if got, ok := Find(list, rel); got != "" || ok {
			t.Errorf("Find(%q) = %q, %v", rel, got, ok)
		}
	}
}

func TestP22_3Format(t *testing.T) {
	for want, list := range map[string][]api.WebLink{
		"": nil, "<>": {{Rels: []string{"ignored"}}}, `<a b>; x; rel=r; Q="s t\"\\", <c>; =1`: {{Target: "a b", Params: []api.Field{{Name: "x"}, {Name: "rel", Value: "r"}, {Name: "Q", Value: `s t"\`}}}, {Target: "c", Params: []api.Field{{Value: "1"}}}},
	} {
		if got := Format(list); got != want {
			t.Errorf("Format(%+v) = %q", list, got)
		}
	}
}
