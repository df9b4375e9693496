package mail

import (
	"regexp"
	"strings"
	"testing"

	"webfinger/api"
	"webfinger/sample"
)

func TestP9_1Parse(t *testing.T) {
	for s, want := range map[string]api.Mail{
		"mailto:%61.b%2Bc@Example.org":             {Local: "a.b+c", Host: "example.org"},
		"MailTo:Bob@A":                             {Local: "Bob", Host: "a"},
		"mailto:!$'*+-_~@a.b":                      {Local: "!$'*+-_~", Host: "a.b"},
		"mailto:%23%26%2f%3d%3f%5e%60%7b%7c%7d@a":  {Local: "#&/=?^`{|}", Host: "a"},
		"mailto:%25@a":                             {Local: "%", Host: "a"},
		"mailto:" + strings.Repeat("x", 64) + "@a": {Local: strings.Repeat("x", 64), Host: "a"},
		"mailto:a%2eb@1.2.3.4a":                    {Local: "a.b", Host: "1.2.3.4a"},
	} {
		if got, err := Parse(s); got != want || err != api.OK {
			t.Errorf("Parse(%q) = %+v, %d", s, got, err)
		}
	}
}

func TestP9_1ParseErrors(t *testing.T) {
	for s, want := range map[string]api.Errno{
		strings.Repeat("x", api.MaxText+1): api.ErrLimit, strings.Repeat("x", api.MaxText): api.ErrScheme,
		"": api.ErrScheme, "mailto": api.ErrScheme, "a@b": api.ErrScheme, "acct:a@b": api.ErrScheme, " mailto:a@b": api.ErrScheme, "?": api.ErrScheme,
		"mailto:": api.ErrForm, "mailto:a": api.ErrForm, "mailto:a@b?subject=x": api.ErrForm, "mailto:a@b#": api.ErrForm, "mailto:a?b@c": api.ErrForm, "mailto:#@c": api.ErrForm, "mailto: @?": api.ErrForm,
		"mailto:a b@c": api.ErrChar, "mailto:a&b@c": api.ErrChar, "mailto:a/b@c": api.ErrChar, "mailto:a=b@c": api.ErrChar, "mailto:{@..": api.ErrChar, "mailto:%%(@c": api.ErrChar, "mailto:a,b@c": api.ErrChar, "mailto:ä@c": api.ErrChar, "mailto:\"a\"@c": api.ErrChar,
		"mailto:%@..": api.ErrPercent, "mailto:a%4@c": api.ErrPercent, "mailto:..%zz@c": api.ErrPercent,
		"mailto:@c": api.ErrUser, "mailto:@": api.ErrUser, "mailto:a..b@c.example": api.ErrUser, "mailto:.a@c": api.ErrUser, "mailto:a.@..": api.ErrUser, "mailto:%20@c": api.ErrUser, "mailto:a%40b@c": api.ErrUser, "mailto:%2e@c": api.ErrUser, "mailto:a%c3%a4@c": api.ErrUser, "mailto:%00@c": api.ErrUser,
		"mailto:" + strings.Repeat("x", 65) + "@a": api.ErrUser,
		"mailto:a@": api.ErrEmpty, "mailto:a@..": api.ErrHost, "mailto:a@b:25": api.ErrHost, "mailto:a@b@c": api.ErrHost, "mailto:a@1.2.3.4": api.ErrHost, "mailto:a@1.2.3": api.ErrHost, "mailto:a@" + strings.Repeat("b", 254): api.ErrLimit, "mailto:a@b,c@d": api.ErrHost,
	} {
		if got, err := Parse(s); got != (api.Mail{}) || err != want {
			t.Errorf("Parse(%.40q) = %+v, %d", s, got, err)
		}
	}
}

func TestP9_2Local(t *testing.T) {
	atoms := "abcxyzABCXYZ0189!#$%&'*+-/=?^_`{|}~"
	for _, c := range sample.Bytes() {
		want := strings.Contains(atoms, c) || regexp.MustCompile(`^[A-Za-z0-9]$`).MatchString(c)
		if Local(c) != want || Local("a"+c+"b") != (want || c == ".") {
			t.Errorf("Local(%q) = %v", c, Local(c))
		}
	}
	grammar := regexp.MustCompile(`^[aB+]+(\.[aB+]+)*$`)
	for s := range sample.Texts(7, "a", "B+", ".", "@") {
		if Local(s) != grammar.MatchString(s) {
			t.Errorf("Local(%q) = %v", s, Local(s))
		}
	}
	if !Local(strings.Repeat("x", 64)) || Local(strings.Repeat("x", 65)) || Local("") {
		t.Error("Local at its limits")
	}
}

func TestP9_2Format(t *testing.T) {
	for want, m := range map[string]api.Mail{
		"mailto:a.b+c@example.org": {Local: "a.b+c", Host: "example.org"}, "mailto:@": {}, "mailto:%23%25%26%2F!$'*+@A:1": {Local: "#%&/!$'*+", Host: "A:1"}, "mailto:a%40b%20%FF@": {Local: "a@b \xff"},
	} {
		if got := Format(m); got != want {
			t.Errorf("Format(%+v) = %q", m, got)
		}
	}
}

func TestConsequences(t *testing.T) {
	formats := map[api.Mail]string{}
	for rest := range sample.Texts(6, "a", "%61", "%2b", "%2F", "+", ".", "@", "B") {
		m, err := Parse("mailto:" + rest)
		if err != api.OK {
			continue
		}
		if again, err := Parse(Format(m)); again != m || err != api.OK {
			t.Errorf("Parse(Format(%+v)) = %+v, %d", m, again, err)
		}
		if f, ok := formats[m]; ok && f != Format(m) {
			t.Errorf("%+v has the formats %q and %q", m, f, Format(m))
		}
		formats[m] = Format(m)
	}
}
