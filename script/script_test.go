package script

import (
	"math"
	"reflect"
	"slices"
	"strconv"
	"strings"
	"testing"

	"webfinger/api"
	"webfinger/sample"
)

const answer = `answer a.example 0 0 0 / "x"`

func TestP34_1Parse(t *testing.T) {
	for s, want := range map[string]struct {
		x     api.Script
		lines int
	}{
		"": {api.Script{}, 0}, "\n": {api.Script{}, 1}, "\n\n": {api.Script{}, 2}, "#": {api.Script{}, 1}, "# a\n#\n\n": {api.Script{}, 3}, "clear": {api.Script{Ops: []api.Op{{Kind: api.OpClear}}}, 1}, "clear\n": {api.Script{Ops: []api.Op{{Kind: api.OpClear}}}, 1}, "clear\n\nclear": {api.Script{Ops: []api.Op{{Kind: api.OpClear}, {Kind: api.OpClear}}}, 3},
		"capacity 5\ncapacity 1024\n": {api.Script{Capacity: 1024}, 2}, "capacity 1\ncapacity 0": {api.Script{}, 2},
		"resolve acct:a@b":                                        {api.Script{Ops: []api.Op{{Kind: api.OpResolve, Text: "acct:a@b"}}}, 1},
		"resolve \nresolve  a  b \r\nderef \n":                    {api.Script{Ops: []api.Op{{Kind: api.OpResolve}, {Kind: api.OpResolve, Text: " a  b \r"}, {Kind: api.OpDeref}}}, 3},
		"deref did:web:a#\xff\ntick 0\ntick 18446744073709551615": {api.Script{Ops: []api.Op{{Kind: api.OpDeref, Text: "did:web:a#\xff"}, {Kind: api.OpTick}, {Kind: api.OpTick, Ticks: math.MaxUint64}}}, 3},
		answer: {api.Script{Answers: []api.Answer{{Host: "a.example", Target: "/", Raw: "x"}}}, 1},
		"answer 1.2.3.4:8443 18446744073709551615 7 4 //\t#\xff \"\"\nclear\nanswer a 0 0 1 /x \" \\\"\\n\\u0001ä/ \"": {api.Script{Ops: []api.Op{{Kind: api.OpClear}}, Answers: []api.Answer{{Host: "1.2.3.4", Port: 8443, From: math.MaxUint64, Until: 7, Fail: 4, Target: "//\t#\xff"}, {Host: "a", Fail: 1, Target: "/x", Raw: " \"\n\x01ä/ "}}}, 3},
	} {
		if got, at, err := Parse(s); !reflect.DeepEqual(got, want.x) || at != want.lines || err != api.OK {
			t.Errorf("Parse(%q) = %+v, %d, %d", s, got, at, err)
		}
	}
}

func TestP34_1ParseWrongLines(t *testing.T) {
	for _, line := range []string{
		" ", " clear", "clear ", "clear x", "Clear", "clear\r", "clears", "x", "\t#", " #",
		"capacity", "capacity ", "capacity x", "capacity 01", "capacity -1", "capacity 1025", "capacity 1 ", "capacity  1", "capacity 1 2", "capacity\t1", "tick", "tick ", "tick x", "tick 00", "tick 1 ", "tick  1", "tick +1", "tick 18446744073709551616", "resolve", "deref", "resolves a", "resolve\ta",
		"answer", "answer ", "answer a", "answer a 0 0 0 /", "answer a 0 0 0 / ", "answer a 0 0 0  \"x\"", "answer  a 0 0 0 / \"x\"", "answer a  0 0 0 / \"x\"", "answer a 0 0 0 /  \"x\"", "answer a 0 0 / \"x\"", "answer a 0 0 0 / x y \"x\"",
		"answer A 0 0 0 / \"x\"", "answer a:443 0 0 0 / \"x\"", "answer a:0 0 0 0 / \"x\"", "answer a..b 0 0 0 / \"x\"", "answer a: 0 0 0 / \"x\"", "answer a:080 0 0 0 / \"x\"", "answer a -1 0 0 / \"x\"", "answer a 00 0 0 / \"x\"", "answer a 0 01 0 / \"x\"", "answer a 0 x 0 / \"x\"", "answer a 18446744073709551616 0 0 / \"x\"", "answer a 0 0 5 / \"x\"", "answer a 0 0 04 / \"x\"", "answer a 0 0 -1 / \"x\"",
		"answer a 0 0 0 / \"x", "answer a 0 0 0 / x", "answer a 0 0 0 / 1", "answer a 0 0 0 / null", "answer a 0 0 0 / \"x\" ", "answer a 0 0 0 / \"x\"\"y\"", "answer a 0 0 0 / \"x\" \"y\"", "answer a 0 0 0 / \"\\u0041\"", "answer a 0 0 0 / \"\\/\"", "answer a 0 0 0 / \"\\u000A\"", "answer a 0 0 0 / \"\\u000a\"", "answer a 0 0 0 / \"\xff\"", "answer a 0 0 0 / \"\t\"", "answer a 0 0 0 / \"\\x\"", "answer a 0 0 0 / \"\\u001F\"", "answer a 0 0 0 / [\"x\"]",
	} {
		for _, c := range []struct {
			before, after string
			at            int
		}{{"", "", 0}, {"clear\n\n#\n", "\nx\n", 3}} {
			if got, at, err := Parse(c.before + line + c.after); !reflect.DeepEqual(got, api.Script{}) || at != c.at || err != api.ErrLine {
				t.Errorf("Parse(%q) = %+v, %d, %d", c.before+line+c.after, got, at, err)
			}
		}
	}
}

func TestP34_1ParseLimits(t *testing.T) {
	answers, ops := strings.Repeat(answer+"\n", api.MaxAnswers), strings.Repeat("clear\n", api.MaxOps)
	if x, at, err := Parse(answers + ops + "capacity 3"); len(x.Answers) != 256 || len(x.Ops) != 256 || at != 513 || err != api.OK {
		t.Errorf("at the limits: %d, %d", at, err)
	}
	for _, c := range []struct {
		s   string
		at  int
		err api.Errno
	}{
		{strings.Repeat("\n", api.MaxScript+1), 0, api.ErrTooLarge}, {"x" + strings.Repeat("\n", api.MaxScript), 0, api.ErrTooLarge}, {strings.Repeat("\n", api.MaxScript-1) + "x", api.MaxScript - 1, api.ErrLine},
		{answers + answer, 256, api.ErrTooMany}, {ops + "tick 1\nx", 256, api.ErrTooMany}, {ops + "resolve ", 256, api.ErrTooMany}, {answers + "answer", 256, api.ErrLine}, {ops + "tick", 256, api.ErrLine}, {ops + "\n" + answers + "\nx", 514, api.ErrLine},
		{"answer a 0 0 0 x \"\"\n", 1, api.ErrInvalid}, {"answer a 0 0 0 x \"\"\n\nclear\n", 3, api.ErrInvalid}, {"answer a 0 0 0 x/ \"\"\ny", 1, api.ErrLine},
	} {
		if got, at, err := Parse(c.s); !reflect.DeepEqual(got, api.Script{}) || at != c.at || err != c.err {
			t.Errorf("Parse(%.40q) = %+v, %d, %d", c.s, got, at, err)
		}
	}
	if _, at, err := Parse(strings.Repeat("\n", api.MaxScript)); at != api.MaxScript || err != api.OK {
		t.Errorf("Parse of MaxScript empty lines = %d, %d", at, err)
	}
}

var full = api.Script{
	Capacity: 1024,
	Answers:  []api.Answer{{Host: "a", Port: 8443, Target: "/x?y", Raw: "HTTP/1.1 200 OK\r\n\r\n\"ä\x00", Fail: 4, From: 1, Until: math.MaxUint64}, {Host: "1.2.3.4", Target: "/\t\r"}},
	Ops:      []api.Op{{Kind: api.OpResolve, Text: " a\r"}, {Kind: api.OpTick, Ticks: math.MaxUint64}, {Kind: api.OpDeref}, {Kind: api.OpClear}, {Kind: api.OpTick}},
}

const fullText = "capacity 1024\nanswer a:8443 1 18446744073709551615 4 /x?y \"HTTP/1.1 200 OK\\r\\n\\r\\n\\\"ä\\u0000\"\nanswer 1.2.3.4 0 0 0 /\t\r \"\"\nresolve  a\r\ntick 18446744073709551615\nderef \nclear\ntick 0\n"

func TestP34_2Format(t *testing.T) {
	for want, x := range map[string]api.Script{"capacity 0\n": {}, fullText: full} {
		if got, err := Format(x); got != want || err != api.OK {
			t.Errorf("Format(%+v) = %q, %d", x, got, err)
		}
		if back, _, err := Parse(want); !reflect.DeepEqual(back, x) || err != api.OK {
			t.Errorf("Parse(%q) = %+v, %d", want, back, err)
		}
	}
}

func TestP34_2FormatErrors(t *testing.T) {
	huge := strings.Repeat("x", api.MaxBody+1)
	for name, change := range map[string]func(*api.Script){
		"capacity below": func(x *api.Script) { x.Capacity = -1 }, "capacity above": func(x *api.Script) { x.Capacity = 1025 }, "host": func(x *api.Script) { x.Answers[0].Host = "A" }, "fail": func(x *api.Script) { x.Answers[1].Fail = 5 }, "relative target": func(x *api.Script) { x.Answers[0].Target = "x" }, "answers": func(x *api.Script) { x.Answers = slices.Repeat(x.Answers[:1], 257) }, "operations": func(x *api.Script) { x.Ops = slices.Repeat(x.Ops[:1], 257) },
		"raw": func(x *api.Script) { x.Answers[1].Raw = "\xff" }, "long raw": func(x *api.Script) { x.Answers[1].Raw = huge + "\xff" }, "space in target": func(x *api.Script) { x.Answers[0].Target = "/a b" }, "line feed in target": func(x *api.Script) { x.Answers[0].Target = "/\n" }, "kind 0": func(x *api.Script) { x.Ops[0].Kind = 0 }, "kind 5": func(x *api.Script) { x.Ops[4].Kind = 5 },
		"line feed in resolve": func(x *api.Script) { x.Ops[0].Text = "a\nb" }, "line feed in deref": func(x *api.Script) { x.Ops[2].Text = "\n" }, "text in tick": func(x *api.Script) { x.Ops[1].Text = "x" }, "text in clear": func(x *api.Script) { x.Ops[3].Text = "x" }, "ticks in resolve": func(x *api.Script) { x.Ops[0].Ticks = 1 }, "ticks in deref": func(x *api.Script) { x.Ops[2].Ticks = 1 }, "ticks in clear": func(x *api.Script) { x.Ops[3].Ticks = 1 },
		"too large, too": func(x *api.Script) { x.Answers[0].Raw, x.Ops[4].Kind = huge, 9 },
	} {
		x := api.Script{Capacity: full.Capacity, Answers: slices.Clone(full.Answers), Ops: slices.Clone(full.Ops)}
		change(&x)
		if got, err := Format(x); got != "" || err != api.ErrInvalid {
			t.Errorf("%s: %.40q, %d", name, got, err)
		}
	}
	for _, raw := range []string{huge, huge[1:], strings.Repeat("\x01", api.MaxScript/6), strings.Repeat("x", api.MaxScript)} {
		if got, err := Format(api.Script{Answers: []api.Answer{{Host: "a", Target: "/", Raw: raw}}}); got != "" || err != api.ErrTooLarge {
			t.Errorf("Format with %d bytes = %.40q, %d", len(raw), got, err)
		}
	}
	if _, err := Format(api.Script{Answers: slices.Repeat(full.Answers[:1], api.MaxAnswers), Ops: slices.Repeat(full.Ops[:1], api.MaxOps)}); err != api.OK {
		t.Errorf("Format of the greatest numbers = %d", err)
	}
	for size, want := range map[int]api.Errno{api.MaxScript - 20: api.OK, api.MaxScript - 19: api.ErrTooLarge} {
		got, err := Format(api.Script{Ops: []api.Op{{Kind: api.OpResolve, Text: strings.Repeat("x", size)}}})
		if err != want || want == api.OK && len(got) != api.MaxScript {
			t.Errorf("Format with %d bytes = %d bytes, %d", size, len(got), err)
		}
	}
}

func TestP34_3Report(t *testing.T) {
	id, profile := api.ID{Kind: 1, Text: "acct:a@b", Host: "b"}, api.ID{Kind: 3, Text: "https://c/", Host: "c"}
	for want, r := range map[string]api.Result{
		"verdict 0 cached acct:a@b https://c/": {Cached: true, Verdict: api.Verdict{ID: id, Profile: profile}}, "verdict 241 fetched acct:a@b": {Err: 241, Verdict: api.Verdict{Err: 5, ID: id}}, "verdict -7 fetched acct:a@b https://c/": {Err: -7, Verdict: api.Verdict{ID: id, Profile: profile}, Deref: api.Deref{URL: "x"}},
		"url https://c/x": {Err: 3, Deref: api.Deref{URL: "https://c/x", Value: api.Value{Kind: api.JSONTrue}}}, `value {"a":1,"b":null}`: {Deref: api.Deref{Value: api.Value{Kind: api.JSONObject, Keys: []string{"b", "a"}, Items: []api.Value{{Kind: api.JSONNull}, {Kind: api.JSONNumber, Text: "1"}}}}}, "value": {Err: 4, Deref: api.Deref{Value: api.Value{Kind: 9}}},
		"error 0": {}, "error 60": {Err: 60, Verdict: api.Verdict{Err: 60}}, "error -1": {Err: -1, Cached: true, Verdict: api.Verdict{Profile: profile}},
	} {
		if got := Report([]api.Result{r}); got != want+"\n" {
			t.Errorf("Report(%+v) = %q", r, got)
		}
		if got := Report([]api.Result{r, {}, r}); got != want+"\nerror 0\n"+want+"\n" {
			t.Errorf("Report = %q", got)
		}
	}
	if Report(nil) != "" {
		t.Error("Report of nothing")
	}
}

const scene = `# bob and his profile name each other
capacity 4
answer a.example 0 0 0 /.well-known/webfinger?resource=acct%3Abob%40a.example "HTTP/1.1 200 OK\r\nContent-Type: application/jrd+json\r\nCache-Control: max-age=10\r\n\r\n{\"subject\":\"acct:bob@a.example\",\"links\":[{\"rel\":\"self\",\"href\":\"https://b.example/bob\"}]}"
answer b.example 0 0 0 /.well-known/webfinger?resource=https%3A%2F%2Fb.example%2Fbob "HTTP/1.1 200 OK\r\nContent-Type: application/json\r\nCache-Control: max-age=20\r\n\r\n{\"subject\":\"https://b.example/bob\",\"aliases\":[\"acct:bob@a.example\"]}"
answer d.example 0 5 0 /.well-known/did.json "HTTP/1.1 200 OK\r\nContent-Type: application/did+json\r\n\r\n{\"service\":[{\"id\":\"#f\",\"type\":\"T\",\"serviceEndpoint\":\"https://s.example/\"}],\"id\":\"did:web:d.example\"}"

resolve acct:bob@A.example
resolve ACCT:bob@a.example
deref did:web:d.example?service=f&relativeRef=x
deref did:web:d.example#f
tick 10
resolve acct:bob@a.example
clear
resolve acct:bob@a.example
deref did:web:d.example
resolve acct:eve@d.example
resolve eve
`

const sceneReport = `verdict 0 fetched acct:bob@a.example https://b.example/bob
verdict 0 cached acct:bob@a.example https://b.example/bob
url https://s.example/x
value {"id":"#f","serviceEndpoint":"https://s.example/","type":"T"}
error 0
verdict 0 fetched acct:bob@a.example https://b.example/bob
error 0
verdict 0 fetched acct:bob@a.example https://b.example/bob
error 241
verdict 241 fetched acct:eve@d.example
error 60
`

func TestP34_4Run(t *testing.T) {
	for s, want := range map[string]struct {
		report string
		at     int
		err    api.Errno
	}{
		"": {"", 0, api.OK}, "resolve acct:a@b.example": {"verdict 241 fetched acct:a@b.example\n", 1, api.OK}, scene: {sceneReport, 17, api.OK}, "clear\n\nx": {"", 2, api.ErrLine}, "answer a 0 0 0 x \"\"\n": {"", 1, api.ErrInvalid}, strings.Repeat("#", api.MaxScript+1): {"", 0, api.ErrTooLarge}, strings.Repeat("clear\n", 257): {"", 256, api.ErrTooMany},
	} {
		if got, at, err := Run(s); got != want.report || at != want.at || err != want.err {
			t.Errorf("Run(%.60q) = %q, %d, %d", s, got, at, err)
		}
	}
}

func TestConsequences(t *testing.T) {
	count := 0
	for s := range sample.Mixed(20000, 6, answer+"\n", "clear\n", "resolve  x\n", "deref \n", "tick 7", "\n", "capacity "+strconv.Itoa(3)+"\n", "#x\n", "answer a:1 0 3 2 /\t \"\\n\"\n", "y") {
		x, _, err := Parse(s)
		if err != api.OK {
			continue
		}
		text, err := Format(x)
		if back, _, err2 := Parse(text); !reflect.DeepEqual(back, x) || err != api.OK || err2 != api.OK {
			t.Errorf("Parse(Format(Parse(%q))) = %+v, %d, %d", s, back, err, err2)
		}
		report, _, err := Run(s)
		if again, _, err2 := Run(text); again != report || err != api.OK || err2 != api.OK || strings.Count(report, "\n") != len(x.Ops) {
			t.Errorf("Run(%q) = %q, %q", s, report, again)
		}
		count++
	}
	if count < 1000 {
		t.Errorf("only %d scripts", count)
	}
}
