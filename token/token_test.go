package token

import (
	"encoding/json"
	"math"
	"math/big"
	"regexp"
	"strings"
	"testing"

	"webfinger/api"
	"webfinger/sample"
)

type nextCase struct {
	s    string
	at   int
	want api.Token
	to   int
	err  api.Errno
}

func checkNext(t *testing.T, cases []nextCase) {
	t.Helper()
	for _, c := range cases {
		if got, to, err := Next(c.s, c.at); got != c.want || to != c.to || err != c.err {
			t.Errorf("Next(%q, %d) = %+v, %d, %d", c.s, c.at, got, to, err)
		}
	}
}

func TestP13_1NextPlainTokens(t *testing.T) {
	checkNext(t, []nextCase{
		{"", 0, api.Token{Kind: api.TokenEnd}, 0, api.OK}, {" \t\r\n", 0, api.Token{Kind: api.TokenEnd, At: 4}, 4, api.OK}, {"a", 1, api.Token{Kind: api.TokenEnd, At: 1}, 1, api.OK},
		{" {", 0, api.Token{Kind: api.TokenPunct, Text: "{", At: 1}, 2, api.OK}, {"{}", 1, api.Token{Kind: api.TokenPunct, Text: "}", At: 1}, 2, api.OK}, {"[", 0, api.Token{Kind: api.TokenPunct, Text: "["}, 1, api.OK}, {"]", 0, api.Token{Kind: api.TokenPunct, Text: "]"}, 1, api.OK}, {":x", 0, api.Token{Kind: api.TokenPunct, Text: ":"}, 1, api.OK}, {",", 0, api.Token{Kind: api.TokenPunct, Text: ","}, 1, api.OK},
		{"true1", 0, api.Token{Kind: api.TokenWord, Text: "true"}, 4, api.OK}, {" false", 0, api.Token{Kind: api.TokenWord, Text: "false", At: 1}, 6, api.OK}, {"null\"", 0, api.Token{Kind: api.TokenWord, Text: "null"}, 4, api.OK},
		{"", 1, api.Token{}, 0, api.ErrRange}, {"", -1, api.Token{}, 0, api.ErrRange}, {"?", 2, api.Token{}, 0, api.ErrRange}, {"a", math.MaxInt, api.Token{}, 0, api.ErrRange}, {"a", math.MinInt, api.Token{}, 0, api.ErrRange},
		{"tru", 0, api.Token{}, 0, api.ErrToken}, {"truex", 0, api.Token{}, 0, api.ErrToken}, {"True", 0, api.Token{}, 0, api.ErrToken}, {"rue", 0, api.Token{}, 0, api.ErrToken}, {"?", 0, api.Token{}, 0, api.ErrToken}, {"\v", 0, api.Token{}, 0, api.ErrToken}, {"\xff", 0, api.Token{}, 0, api.ErrToken}, {"'a'", 0, api.Token{}, 0, api.ErrToken}, {"+1", 0, api.Token{}, 0, api.ErrToken}, {".5", 0, api.Token{}, 0, api.ErrToken}, {"\u00a0", 0, api.Token{}, 0, api.ErrToken},
	})
}

func TestP13_1NextNumbers(t *testing.T) {
	for s, want := range map[string]string{
		"0": "0", "01": "0", "-0": "-0", "-00": "-0", "12x": "12", "1.5e3,": "1.5e3", "1.": "1", "1.x": "1", "1.e5": "1", "1e": "1", "1e+": "1", "1E-x": "1", "1.5e": "1.5", "1.5e+": "1.5", "0e0": "0e0", "0.00": "0.00", "1E+05]": "1E+05", "1-2": "1", "1.2.3": "1.2", "1e2e3": "1e2", "1e2.5": "1e2", "123true": "123", "-9.8E-7": "-9.8E-7",
	} {
		if got, to, err := Next(s, 0); got != (api.Token{Kind: api.TokenNumber, Text: want}) || to != len(want) || err != api.OK {
			t.Errorf("Next(%q) = %+v, %d, %d", s, got, to, err)
		}
	}
	for _, s := range []string{"-", "--1", "-a", "-.5", "- 1"} {
		if got, to, err := Next(s, 0); got != (api.Token{}) || to != 0 || err != api.ErrToken {
			t.Errorf("Next(%q) = %+v, %d, %d", s, got, to, err)
		}
	}
}

func TestP13_1NextStrings(t *testing.T) {
	for s, want := range map[string]string{
		`""`: "", `"a b"`: "a b", `"\"\\\/\b\f\n\r\t"`: "\"\\/\b\f\n\r\t", `"\u00e4\ud83d\ude00"`: "ä😀", `"\u0041\u0000"`: "A\x00", `"\uD7FF\uE000\uFFFF"`: "\ud7ff\ue000\uffff", `"\ud800\udc00\uDBFF\uDFFF"`: "\U00010000\U0010ffff", "\"ä€😀\x7f\"": "ä€😀\x7f", `"\\u0041"`: `\u0041`, `"\u005C"`: `\`, `"\u0022"`: `"`, `"\\"`: `\`, `"'"`: "'",
	} {
		if got, to, err := Next(s+`"x`, 0); got != (api.Token{Kind: api.TokenString, Text: want}) || to != len(s) || err != api.OK {
			t.Errorf("Next(%q) = %+v, %d, %d", s, got, to, err)
		}
	}
	for s, want := range map[string]api.Errno{
		`"`: api.ErrToken, `"abc`: api.ErrToken, `"\`: api.ErrToken, `"\"`: api.ErrToken, `"\x"`: api.ErrToken, `"\u"`: api.ErrToken, `"\u12"`: api.ErrToken, `"\u123`: api.ErrToken, `"\u123g"`: api.ErrToken, `"\u+123"`: api.ErrToken, `"\U0041"`: api.ErrToken, `"\a"`: api.ErrToken, `"\'"`: api.ErrToken, "\"\n\"": api.ErrToken, "\"\x1f\"": api.ErrToken, "\"\x00\"": api.ErrToken, "\"\\\n\"": api.ErrToken,
		`"\ud800"`: api.ErrUTF8, `"\udc00"`: api.ErrUTF8, `"\udfff\ud800"`: api.ErrUTF8, `"\ud800\ud800\udc00"`: api.ErrUTF8, `"\ud800\u0041"`: api.ErrUTF8, `"\ud800x"`: api.ErrUTF8, `"\ud800`: api.ErrUTF8, `"\ud800\uzzzz"`: api.ErrUTF8, `"\ud800\n"`: api.ErrUTF8, `"\udbff\ue000"`: api.ErrUTF8, `"\ud800\ue000"`: api.ErrUTF8, `"\ud800xudc00"`: api.ErrUTF8, `"\ud800\ndc00"`: api.ErrUTF8, `"\ue000\udc00"`: api.ErrUTF8, `"\x0041"`: api.ErrToken, `"\ud800\"`: api.ErrUTF8,
		"\"\xff\"": api.ErrUTF8, "\"\xc3\"": api.ErrUTF8, "\"\xe2\x82": api.ErrUTF8, "\"\xc0\x80\"": api.ErrUTF8, "\"\xed\xa0\x80\"": api.ErrUTF8,
		"\"\xff\n\"": api.ErrUTF8, "\"\n\xff\"": api.ErrToken, `"\x\ud800"`: api.ErrToken, "\"\\\xff\"": api.ErrToken,
	} {
		if got, to, err := Next(s, 0); got != (api.Token{}) || to != 0 || err != want {
			t.Errorf("Next(%q) = %+v, %d, %d", s, got, to, err)
		}
	}
}

func TestP13_1StringsAgreeWithGo(t *testing.T) {
	for s := range sample.Texts(4, "a", `\`, `"`, `u00`, `41`, `\ud83d`, `\ude00`, "n", "ä", "\n") {
		s = `"` + s + `"`
		var want string
		wrong := json.Unmarshal([]byte(s), &want)
		got, to, err := Next(s, 0)
		isWhole := err == api.OK && to == len(s)
		if strings.Contains(want, "\ufffd") {
			if err != api.ErrUTF8 {
				t.Errorf("Next(%q) = %+v, %d, %d", s, got, to, err)
			}
		} else if isWhole != (wrong == nil) || isWhole && got.Text != want {
			t.Errorf("Next(%q) = %+v, %d, %d", s, got, to, err)
		}
	}
}

func TestP13_2Quote(t *testing.T) {
	for s, want := range map[string]string{
		"": `""`, " a/b '": `" a/b '"`, "\"\\": `"\"\\"`, "\b\f\n\r\t": `"\b\f\n\r\t"`, "\x00\x01\x0b\x1f": `"\u0000\u0001\u000b\u001f"`, "ä😀\x7f\u2028<>&": "\"ä😀\x7f\u2028<>&\"",
	} {
		if got, err := Quote(s); got != want || err != api.OK {
			t.Errorf("Quote(%q) = %q, %d", s, got, err)
		}
	}
	for s, want := range map[string]api.Errno{"\xff": api.ErrUTF8, "a\xc3": api.ErrUTF8, strings.Repeat("\xff", api.MaxBody): api.ErrUTF8, strings.Repeat("\xff", api.MaxBody+1): api.ErrLimit, strings.Repeat("a", api.MaxBody+1): api.ErrLimit} {
		if got, err := Quote(s); got != "" || err != want {
			t.Errorf("Quote(%.20q) = %.20q, %d", s, got, err)
		}
	}
	if got, err := Quote(strings.Repeat("\n", api.MaxBody)); len(got) != 2*api.MaxBody+2 || err != api.OK {
		t.Errorf("at the limit: %d", err)
	}
	for s := range sample.Mixed(3000, 9, append(sample.Bytes()[:128], "ä", "€", "😀")...) {
		quoted, err := Quote(s)
		if err != api.OK {
			t.Fatalf("Quote(%q) = %d", s, err)
		}
		if got, to, err := Next(quoted, 0); got != (api.Token{Kind: api.TokenString, Text: s}) || to != len(quoted) || err != api.OK {
			t.Errorf("Next(Quote(%q)) = %+v, %d, %d", s, got, to, err)
		}
	}
}

func TestP13_3Number(t *testing.T) {
	nines := strings.Repeat("9", api.MaxDigits)
	for s, want := range map[string]string{
		"0": "0", "-0": "0", "0.0e9": "0", "-0.00E-999999999999999999999999": "0", "0e400": "0", "1": "1", "-1.500E+3": "-15e2", "10": "1e1", "1.0": "1", "2.50": "25e-1", "0.001": "1e-3", "100e-2": "1", "1e0": "1", "1e-0": "1", "1e+007": "1e7", "12300": "123e2", "-5e-3": "-5e-3", "1e400": "1e400", "1e-400": "1e-400", "10e399": "1e400", "0.1e401": "1e400", "10e-401": "1e-400", nines: nines, nines + "000": nines + "e3", "0." + nines: nines + "e-40", "0.000" + nines + "0": nines + "e-43",
		"1" + strings.Repeat("0", 400): "1e400", "0." + strings.Repeat("0", 399) + "1": "1e-400", "1" + strings.Repeat("0", 500) + "e-500": "1", "0." + strings.Repeat("0", 999) + "7e1000": "7",
	} {
		if got, err := Number(s); got != want || err != api.OK {
			t.Errorf("Number(%.60q) = %q, %d", s, got, err)
		}
	}
	for s, want := range map[string]api.Errno{
		"": api.ErrToken, "-": api.ErrToken, "01": api.ErrToken, "1.": api.ErrToken, "1e": api.ErrToken, "1 ": api.ErrToken, " 1": api.ErrToken, "+1": api.ErrToken, ".5": api.ErrToken, "0x1": api.ErrToken, "1e5.0": api.ErrToken, "NaN": api.ErrToken, "-a": api.ErrToken, "1,": api.ErrToken, "--1": api.ErrToken,
		nines + "9": api.ErrNumber, "1e401": api.ErrNumber, "1e-401": api.ErrNumber, "10e400": api.ErrNumber, "0.1e-400": api.ErrNumber, "-1e99999999999999999999999999": api.ErrNumber, "1e-99999999999999999999999999": api.ErrNumber, "1." + strings.Repeat("0", 99) + nines: api.ErrNumber, "1" + strings.Repeat("0", 401): api.ErrNumber, "1e9223372036854775808": api.ErrNumber, "1e-9223372036854775808": api.ErrNumber, "10e18446744073709551615": api.ErrNumber,
	} {
		if got, err := Number(s); got != "" || err != want {
			t.Errorf("Number(%.60q) = %q, %d", s, got, err)
		}
	}
}

func TestP13_3NumberKeepsTheValue(t *testing.T) {
	grammar := regexp.MustCompile(`^-?(0|[1-9][0-9]*)(\.[0-9]+)?([eE][+-]?[0-9]+)?$`)
	values := map[string]*big.Rat{}
	for s := range sample.Texts(6, "-", "0", "1", "20", ".", "e", "E+") {
		got, err := Number(s)
		if (err != api.ErrToken) != grammar.MatchString(s) {
			t.Errorf("Number(%q) = %q, %d", s, got, err)
		}
		if err != api.OK {
			continue
		}
		want, _ := new(big.Rat).SetString(s)
		if again, err := Number(got); again != got || err != api.OK {
			t.Errorf("Number(%q) = %q, %d", got, again, err)
		}
		value, ok := values[got]
		if !ok {
			value, _ = new(big.Rat).SetString(got)
			values[got] = value
		}
		if value.Cmp(want) != 0 {
			t.Errorf("Number(%q) = %q", s, got)
		}
	}
	seen := map[string]string{}
	for form, value := range values {
		if other, ok := seen[value.String()]; ok {
			t.Errorf("%q and %q are equal", form, other)
		}
		seen[value.String()] = form
	}
}
