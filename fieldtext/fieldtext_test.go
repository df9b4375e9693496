package fieldtext

import (
	"regexp"
	"strings"
	"testing"

	"webfinger/ascii"
	"webfinger/sample"
)

func TestIsByteAndIsText(t *testing.T) {
	for i, c := range sample.Bytes() {
		want := i >= 33 && i <= 126 || i == 32 || i == 9 || i >= 128
		if IsByte(c[0]) != want || IsText("a"+c+"b") != want || IsText(c) != want {
			t.Errorf("IsByte(%q) = %v", c, IsByte(c[0]))
		}
	}
	if !IsText("") {
		t.Error("IsText of nothing")
	}
}

func TestTokensAndBlanks(t *testing.T) {
	for _, c := range sample.Bytes() {
		if want := ascii.IsToken(c[0]); IsToken(c) != want || IsToken("a"+c) != want {
			t.Errorf("IsToken(%q) = %v", c, !want)
		}
	}
	if IsToken("") || TokenEnd("ab c", 0) != 2 || TokenEnd("ab c", 2) != 2 || TokenEnd("ab", 2) != 2 {
		t.Error("tokens")
	}
	if BlanksEnd("a \t b", 1) != 4 || BlanksEnd("a", 0) != 0 || BlanksEnd(" ", 0) != 1 || BlanksEnd("\n", 0) != 0 {
		t.Error("blanks")
	}
}

func TestWord(t *testing.T) {
	for _, c := range []struct {
		s    string
		at   int
		text string
		to   int
		ok   bool
	}{
		{"abc;", 0, "abc", 3, true}, {"x=y", 2, "y", 3, true}, {"", 0, "", 0, false}, {"a", 1, "", 1, false}, {" a", 0, "", 0, false}, {"é", 0, "", 0, false},
		{`""`, 0, "", 2, true}, {`"a b";`, 0, "a b", 5, true}, {`x"\"\\\a"y`, 1, `"\a`, 9, true}, {"\"\t\xff~\"", 0, "\t\xff~", 5, true},
		{`"`, 0, "", 1, false}, {`"abc`, 0, "", 4, false}, {`"abc\`, 0, "", 5, false}, {`"abc\"`, 0, "", 6, false}, {"\"a\nb\"", 0, "", 2, false}, {"\"\\\n\"", 0, "", 2, false}, {"\"\x7f\"", 0, "", 1, false},
	} {
		if text, to, ok := Word(c.s, c.at); text != c.text || to != c.to || ok != c.ok {
			t.Errorf("Word(%q, %d) = %q, %d, %v", c.s, c.at, text, to, ok)
		}
	}
	grammar := regexp.MustCompile("^(\"([a \x7f\t]|\\\\[a \t\"\\\\])*\"|a+)")
	for s := range sample.Texts(6, `"`, `\`, "a", " ", "\n") {
		text, to, ok := Word(s, 0)
		if m := grammar.FindString(s); ok != (m != "") || ok && to != len(m) || !ok && text != "" {
			t.Errorf("Word(%q) = %q, %d, %v", s, text, to, ok)
		}
	}
}

func TestWrite(t *testing.T) {
	for s, want := range map[string]string{"abc": "abc", "": `""`, "a b": `"a b"`, `a"\`: `"a\"\\"`, "=": `"="`} {
		if got := Write(s); got != want {
			t.Errorf("Write(%q) = %q", s, got)
		}
	}
	for s := range sample.Mixed(2000, 6, append(sample.Bytes()[32:127], "\t", "\xff")...) {
		written := Write(s)
		if text, to, ok := Word(written, 0); text != s || to != len(written) || !ok {
			t.Errorf("Word(Write(%q)) = %q, %d, %v", s, text, to, ok)
		}
	}
	if !strings.HasPrefix(Write("\x00"), `"`) {
		t.Error("Write of a byte that no value has")
	}
}
