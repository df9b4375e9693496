package fresh

import (
	"math"
	"regexp"
	"slices"
	"strconv"
	"strings"
	"testing"

	"webfinger/api"
	"webfinger/sample"
)

func TestP21_1Directives(t *testing.T) {
	for s, want := range map[string][]api.Field{
		"": nil, " \t": nil, ",": nil, " , ,\t,": nil, "a": {{Name: "a"}}, "Max-Age=10, PUBLIC": {{Name: "max-age", Value: "10"}, {Name: "public"}}, ",a ,,\tb=C,": {{Name: "a"}, {Name: "b", Value: "C"}}, `x="a, b=\"\\" , y=""`: {{Name: "x", Value: `a, b="\`}, {Name: "y"}}, " a,a ": {{Name: "a"}, {Name: "a"}}, "a=b": {{Name: "a", Value: "b"}}, "!#=~": {{Name: "!#", Value: "~"}},
	} {
		if got, ok := Directives(s); !slices.Equal(got, want) || !ok {
			t.Errorf("Directives(%q) = %+v, %v", s, got, ok)
		}
	}
	for _, s := range []string{"=", "a=", "a =b", "a= b", "a b", "a;b", "=b", "a=b c", `a="`, `a="b`, `a="b"c`, `"a"`, "a,b=", "a\n", "\v", "ä", "a=ä", "a==b", "a=b=c", "a=\"\n\"", "a=,b", "a, b c"} {
		if got, ok := Directives(s); got != nil || ok {
			t.Errorf("Directives(%q) = %+v, %v", s, got, ok)
		}
	}
	grammar := regexp.MustCompile(`^ *(a+(=(a+|"[ a,=]*"))?)? *(, *(a+(=(a+|"[ a,=]*"))?)? *)*$`)
	for s := range sample.Texts(7, "a", "=", ",", " ", `"`) {
		if _, ok := Directives(s); ok != grammar.MatchString(s) {
			t.Errorf("Directives(%q) = %v", s, ok)
		}
	}
}

func headOf(control, age string) api.Head {
	var h api.Head
	if control != "-" {
		h.Fields = append(h.Fields, api.Field{Name: "Cache-Control", Value: control})
	}
	if age != "-" {
		h.Fields = append(h.Fields, api.Field{Name: "AGE", Value: age})
	}
	return h
}

func TestP21_2Of(t *testing.T) {
	huge := strings.Repeat("9", 30)
	for _, c := range []struct {
		control, age string
		want         uint64
	}{
		{"max-age=100, public", "40", 60}, {"max-age=100", "-", 100}, {"MAX-AGE=\"100\"", "0", 100}, {"max-age=100, max-age=50,max-age=70", "20", 30}, {"max-age=86400", "-", 86400}, {"max-age=86401", "-", 86400}, {"max-age=" + huge, "-", 86400}, {"max-age=86500", "50", 86400}, {"max-age=100000", "99999", 1}, {"max-age=0099", "09", 90}, {"max-age=18446744073709551615", "18446744073709551614", 1}, {"max-age=1", "-", 1}, {"x=\"no-store\", max-age=5", "-", 5},
		{"-", "-", 0}, {"-", "5", 0}, {"", "-", 0}, {"public", "-", 0}, {"max-age=0", "-", 0}, {"max-age=100", "100", 0}, {"max-age=100", "101", 0}, {"max-age=100", huge, 0}, {"max-age=" + huge, huge, 0}, {"max-age=100, no-store", "40", 0}, {"No-Store,max-age=100", "-", 0}, {"max-age=100,NO-CACHE", "-", 0}, {"max-age=100, no-cache=\"x\"", "-", 0}, {"max-age=100, no-store=1", "-", 0},
		{"max-age", "-", 0}, {"max-age=", "-", 0}, {"max-age=\"\"", "-", 0}, {"max-age=1x", "-", 0}, {"max-age=-1", "-", 0}, {"max-age=100, max-age=x", "-", 0}, {"max-age=x, max-age=100", "-", 0}, {"max-age=100, max-age", "-", 0}, {"max-age=100,max-age=0", "-", 0}, {"s-maxage=100", "-", 0}, {"max-age=100;", "-", 0}, {"max-age=100 x", "-", 0},
		{"max-age=100", "", 0}, {"max-age=100", "-1", 0}, {"max-age=100", "x", 0}, {"max-age=100", "1, 1", 0}, {"max-age=100", " 1", 0}, {"max-age=100", "1.0", 0},
	} {
		if got := Of(headOf(c.control, c.age)); got != (api.Fresh{Store: c.want > 0, Seconds: c.want}) {
			t.Errorf("Of(%q, %q) = %+v", c.control, c.age, got)
		}
	}
	several := api.Head{Fields: []api.Field{{Name: "cache-control", Value: "max-age=9"}, {Name: "x"}, {Name: "cache-control", Value: "max-age=7"}}}
	if got := Of(several); got.Seconds != 7 {
		t.Errorf("Of two fields = %+v", got)
	}
	several.Fields = append(several.Fields, api.Field{Name: "age", Value: "1"}, api.Field{Name: "age", Value: "1"})
	if got := Of(several); got != (api.Fresh{}) {
		t.Errorf("Of two ages = %+v", got)
	}
}

func TestP21_3Least(t *testing.T) {
	list := []api.Fresh{{}, {Store: true, Seconds: 1}, {Store: true, Seconds: 5}, {Store: true, Seconds: math.MaxUint64}, {Seconds: 3}, {Store: true}}
	for _, a := range list {
		for _, b := range list {
			var want api.Fresh
			if a.Store && b.Store {
				want = api.Fresh{Store: true, Seconds: min(a.Seconds, b.Seconds)}
			}
			if got := Least(a, b); got != want || Least(b, a) != got {
				t.Errorf("Least(%+v, %+v) = %+v", a, b, got)
			}
			for _, c := range list {
				if Least(Least(a, b), c) != Least(a, Least(b, c)) {
					t.Errorf("Least of %+v, %+v, %+v is not associative", a, b, c)
				}
			}
		}
	}
}

func TestConsequences(t *testing.T) {
	for s := range sample.Mixed(5000, 6, "max-age=", "9", "500", ",", "no-store", "public", "99999", " ", "=", `"`) {
		last := uint64(math.MaxUint64)
		for _, age := range []uint64{0, 1, 8, 9, 400, 99999, math.MaxUint64} {
			got := Of(headOf(s, strconv.FormatUint(age, 10)))
			if got.Seconds > api.MaxAge || got.Store != (got.Seconds > 0) || got.Seconds > last {
				t.Errorf("Of(%q, %d) = %+v", s, age, got)
			}
			last = got.Seconds
		}
	}
}
