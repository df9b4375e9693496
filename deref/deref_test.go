package deref

import (
	"net/url"
	"reflect"
	"slices"
	"strings"
	"testing"

	"webfinger/api"
	"webfinger/did"
	"webfinger/jsondoc"
	"webfinger/sample"
)

func TestP29_1Params(t *testing.T) {
	for query, want := range map[string][]api.Field{
		"": nil, "&&": nil, "a=b": {{Name: "a", Value: "b"}}, "a": {{Name: "a"}}, "a=": {{Name: "a"}}, "=b": {{Value: "b"}}, "=": {{}}, "a=b=c&&d": {{Name: "a", Value: "b=c"}, {Name: "d"}}, "a%3D=b%3d%26&a=2": {{Name: "a%3D", Value: "b=&"}, {Name: "a", Value: "2"}}, "a=%&b=%zz&c=1": {{Name: "c", Value: "1"}}, "%=x": {{Name: "%", Value: "x"}}, "a=b+c;d": {{Name: "a", Value: "b+c;d"}},
		"a=" + strings.Repeat("x", 4*api.MaxText+1) + "&b": {{Name: "b"}},
	} {
		if got := Params(query); !slices.Equal(got, want) {
			t.Errorf("Params(%.60q) = %+v", query, got)
		}
	}
	for query := range sample.Texts(6, "a", "=", "&", "%41", "%") {
		var want []api.Field
		for _, part := range strings.FieldsFunc(query, func(r rune) bool { return r == '&' }) {
			name, text, _ := strings.Cut(part, "=")
			if value, err := url.PathUnescape(text); err == nil {
				want = append(want, api.Field{Name: name, Value: value})
			}
		}
		if got := Params(query); !slices.Equal(got, want) {
			t.Errorf("Params(%q) = %+v", query, got)
		}
	}
}

const document = `{"id":"did:web:a.example","verificationMethod":[{"id":"#k","type":"T","controller":"C"}],"service":[
{"id":"#files","type":"X","serviceEndpoint":["https://A.example/f/","https://no/"]},{"id":"#files","type":"X","serviceEndpoint":"https://no/"},
{"id":"#frag","type":"X","serviceEndpoint":"https://a.example/g?q#own"},{"id":"#none","type":"X","serviceEndpoint":[]},{"id":"#object","type":"X","serviceEndpoint":{"a":1}},
{"id":"#http","type":"X","serviceEndpoint":"http://a.example/"},{"id":"did:web:b.example#other","type":"X","serviceEndpoint":"https://b.example/"},{"id":"#a%20b","type":"X","serviceEndpoint":"https://s.example/"},{"id":"#","type":"X","serviceEndpoint":"https://e.example/"}]}`

func value(t *testing.T, s string) api.Value {
	t.Helper()
	v, _, err := jsondoc.Parse(s)
	if err != api.OK {
		t.Fatalf("%q is no JSON text: %d", s, err)
	}
	return v
}

// serviceCases has what follows the DID in a DID URL.
var serviceCases = map[string]struct {
	url string
	err api.Errno
}{
	"?service=files":                                {"https://a.example/f/", api.OK},
	"?service=files&relativeRef=x%2Fy":              {"https://a.example/f/x/y", api.OK},
	"?relativeRef=x%3Fz%23w&service=%66iles":        {"https://a.example/f/x?z#w", api.OK},
	"?service=files&service=none&relativeRef=":      {"https://a.example/f/", api.OK},
	"?service=files&relativeRef=a&relativeRef=b":    {"https://a.example/f/a", api.OK},
	"?x=1&service=files#part":                       {"https://a.example/f/#part", api.OK},
	"?service=files#":                               {"https://a.example/f/#", api.OK},
	"?service=frag#part":                            {"https://a.example/g?q#own", api.OK},
	"?service=frag&relativeRef=h#part":              {"https://a.example/h#part", api.OK},
	"?service=frag&relativeRef=%23n#part":           {"https://a.example/g?q#n", api.OK},
	"?service=files&relativeRef=//C.example":        {"https://c.example/", api.OK},
	"?service=a%2520b":                              {"https://s.example/", api.OK},
	"?service":                                      {"https://e.example/", api.OK},
	"?service=unknown":                              {"", api.ErrNoService},
	"?service=other":                                {"", api.ErrNoService},
	"?service=k":                                    {"", api.ErrNoService},
	"?service=%23files":                             {"", api.ErrNoService},
	"?service=a%20b":                                {"", api.ErrNoService},
	"?service=none":                                 {"", api.ErrDeref},
	"?service=object":                               {"", api.ErrDeref},
	"?service=http":                                 {"", api.ErrDeref},
	"?service=files&relativeRef=http%3A%2F%2Fx":     {"", api.ErrDeref},
	"?service=files&relativeRef=%20":                {"", api.ErrDeref},
	"?service=files#" + strings.Repeat("x", 4075):   {"https://a.example/f/#" + strings.Repeat("x", 4075), api.OK},
	"?service=frag&relativeRef=" + "%2E%2E%2Fx#%2f": {"https://a.example/x#%2F", api.OK},
}

func TestP29_2Service(t *testing.T) {
	v := value(t, document)
	d := api.DID{Method: "web", ID: "a.example"}
	for rest, want := range serviceCases {
		u, _ := did.Parse("did:x:y" + rest)
		u.DID = d
		if len(rest) > 4000 {
			query, fragment, _ := strings.Cut(rest[1:], "#")
			u = api.DIDURL{DID: d, Query: query, HasQuery: true, Fragment: fragment, HasFrag: true}
		}
		if got, err := Service(v, u); got != want.url || err != want.err {
			t.Errorf("Service(%.60q) = %.60q, %d", rest, got, err)
		}
	}
	for _, c := range []struct {
		v   api.Value
		u   api.DIDURL
		err api.Errno
	}{
		{api.Value{}, api.DIDURL{}, api.ErrShape}, {value(t, `{"id":"did:x:y","alsoKnownAs":[`+strings.Repeat("1,", 64)+`1]}`), api.DIDURL{}, api.ErrTooMany}, {v, api.DIDURL{DID: d}, api.ErrNoService}, {v, api.DIDURL{DID: d, Query: "service=files"}, api.ErrNoService}, {v, api.DIDURL{DID: api.DID{Method: "web", ID: "A.example"}, Query: "service=files", HasQuery: true}, api.ErrNoService}, {v, api.DIDURL{DID: d, Query: "service=%", HasQuery: true}, api.ErrNoService}, {v, api.DIDURL{DID: d, Query: "Service=files", HasQuery: true}, api.ErrNoService},
		{v, api.DIDURL{DID: d, Query: "service=files", HasQuery: true, Fragment: strings.Repeat("x", 4076), HasFrag: true}, api.ErrDeref},
	} {
		if got, err := Service(c.v, c.u); got != "" || err != c.err {
			t.Errorf("Service(%.60v) = %q, %d", c.u, got, err)
		}
	}
}

var (
	page  = api.Answer{Host: "a.example", Target: "/.well-known/did.json", Raw: "HTTP/1.1 200 -\r\nContent-Type: application/did+json\r\n\r\n" + document}
	trace = []api.Exchange{{URL: api.URL{Host: "a.example", Path: "/.well-known/did.json"}, Status: 200}}
)

func TestP29_3RunService(t *testing.T) {
	for rest, want := range serviceCases {
		if len(rest) > 4000 {
			continue
		}
		for _, name := range []string{"did:web:a.example", "did:web:A.%65xample%3A443:.well-known"} {
			got, err := Run([]api.Answer{page}, 0, name+rest)
			if !reflect.DeepEqual(got, api.Deref{URL: want.url, Trace: trace}) || err != want.err {
				t.Errorf("Run(%q) = %+v, %d", name+rest, got, err)
			}
		}
	}
}

func TestP29_3RunPartOfTheDocument(t *testing.T) {
	for s, want := range map[string]string{
		"did:web:a.example": document, "did:web:A.example:.well-known": document, "did:web:a.example#k": `{"id":"#k","type":"T","controller":"C"}`, "did:web:A.example#%6b": `{"id":"#k","type":"T","controller":"C"}`, "did:web:a.example#object": `{"id":"#object","type":"X","serviceEndpoint":{"a":1}}`,
	} {
		if got, err := Run([]api.Answer{page}, 0, s); !reflect.DeepEqual(got, api.Deref{Value: value(t, want), Trace: trace}) || err != api.OK {
			t.Errorf("Run(%q) = %+v, %d", s, got, err)
		}
	}
}

func TestP29_3RunErrors(t *testing.T) {
	for s, want := range map[string]api.Errno{
		"": api.ErrScheme, "did:web": api.ErrForm, "did:web:%": api.ErrPercent, "did:web:a.example#%": api.ErrPercent, strings.Repeat("x", 5000): api.ErrLimit, "did:x:y": api.ErrMethod, "did:web:a:..": api.ErrSegment, "did:web:a..b#k": api.ErrHost,
	} {
		if got, err := Run([]api.Answer{page}, 0, s); !reflect.DeepEqual(got, api.Deref{}) || err != want {
			t.Errorf("Run(%.40q) = %+v, %d", s, got, err)
		}
	}
	for s, want := range map[string]api.Errno{
		"did:web:a.example/p": api.ErrDeref, "did:web:a.example/p#k": api.ErrDeref, "did:web:a.example?": api.ErrDeref, "did:web:a.example?x=y": api.ErrDeref, "did:web:a.example?#k": api.ErrDeref, "did:web:a.example/p?service=files": api.ErrDeref, "did:web:a.example/p?service=unknown": api.ErrDeref, "did:web:a.example/?service=files": api.ErrDeref, "did:web:a.example#x": api.ErrNoFragment, "did:web:a.example#K": api.ErrNoFragment,
	} {
		got, err := Run([]api.Answer{page}, 0, s)
		if !reflect.DeepEqual(got, api.Deref{Trace: trace}) || err != want {
			t.Errorf("Run(%q) = %+v, %d", s, got, err)
		}
	}
	if got, err := Run(nil, 0, "did:web:a.example/p?service=x"); len(got.Trace) != 1 || got.Trace[0].Err != api.ErrConnect || err != api.ErrConnect {
		t.Errorf("Run without an answer = %+v, %d", got, err)
	}
	other := page
	other.Raw = strings.Replace(page.Raw, `"id":"did:web:a.example"`, `"id":"did:web:b.example"`, 1)
	if got, err := Run([]api.Answer{other}, 0, "did:web:a.example"); !reflect.DeepEqual(got, api.Deref{Trace: trace}) || err != api.ErrDocument {
		t.Errorf("Run with another document = %+v, %d", got, err)
	}
}
