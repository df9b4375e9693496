package number

import (
	"math"
	"math/big"
	"strings"
	"testing"

	"webfinger/api"
	"webfinger/sample"
)

type parse func(string, uint64) (uint64, api.Errno)

type numberCase struct {
	s    string
	most uint64
	want uint64
	err  api.Errno
}

func checkCases(t *testing.T, name string, f parse, cases []numberCase) {
	t.Helper()
	for _, c := range cases {
		if got, err := f(c.s, c.most); got != c.want || err != c.err {
			t.Errorf("%s(%q, %d) = %d, %d", name, c.s, c.most, got, err)
		}
	}
}

var all = uint64(math.MaxUint64)

func TestP4_1Parse(t *testing.T) {
	checkCases(t, "Parse", Parse, []numberCase{
		{"0", 0, 0, api.OK}, {"007", 9, 7, api.OK}, {"9", 9, 9, api.OK}, {"10", 9, 0, api.ErrRange}, {"1", 0, 0, api.ErrRange},
		{"18446744073709551615", all, all, api.OK}, {"18446744073709551616", all, 0, api.ErrRange}, {"18446744073709551620", all, 0, api.ErrRange},
		{"184467440737095516150", all, 0, api.ErrRange}, {strings.Repeat("9", 5000), all, 0, api.ErrRange}, {strings.Repeat("0", 5000) + "3", 3, 3, api.OK},
		{"", all, 0, api.ErrEmpty}, {"-1", all, 0, api.ErrChar}, {"+1", all, 0, api.ErrChar}, {"1 ", all, 0, api.ErrChar}, {"a", all, 0, api.ErrChar},
		{"1_0", all, 0, api.ErrChar}, {"99x", 9, 0, api.ErrChar}, {"\xb2", all, 0, api.ErrChar},
	})
}

func TestP4_2Strict(t *testing.T) {
	checkCases(t, "Strict", Strict, []numberCase{
		{"0", 9, 0, api.OK}, {"7", 9, 7, api.OK}, {"007", 9, 0, api.ErrForm}, {"00", 9, 0, api.ErrForm}, {"099", 9, 0, api.ErrForm}, {"0x", 9, 0, api.ErrChar},
		{"", 9, 0, api.ErrEmpty}, {"99", 9, 0, api.ErrRange}, {"18446744073709551615", all, all, api.OK}, {"18446744073709551616", all, 0, api.ErrRange},
	})
}

func TestP4_2Hex(t *testing.T) {
	checkCases(t, "Hex", Hex, []numberCase{
		{"0", 0, 0, api.OK}, {"fF", 255, 255, api.OK}, {"100", 255, 0, api.ErrRange}, {"aBcDeF09", all, 0xABCDEF09, api.OK}, {"00a", 10, 10, api.OK},
		{"ffffffffffffffff", all, all, api.OK}, {"10000000000000000", all, 0, api.ErrRange}, {strings.Repeat("f", 99), all, 0, api.ErrRange},
		{"", 9, 0, api.ErrEmpty}, {"g", 9, 0, api.ErrChar}, {"ffg", 9, 0, api.ErrChar}, {"0x1", 9, 0, api.ErrChar}, {"@", 99, 0, api.ErrChar}, {"`", 99, 0, api.ErrChar},
	})
}

func TestParsingAgreesWithBigNumbers(t *testing.T) {
	mosts := []uint64{0, 1, 5, 9, 10, 15, 16, 99, 255, 65535, 1 << 32, all - 9, all - 1, all}
	for s := range sample.Mixed(4000, 9, "0", "1", "5", "9", "a", "F", "1844674407370955161", "ffff", " ") {
		for _, most := range mosts {
			checkBig(t, s, most, 10, Parse)
			checkBig(t, s, most, 16, Hex)
		}
	}
}

func checkBig(t *testing.T, s string, most uint64, base int, f parse) {
	t.Helper()
	got, err := f(s, most)
	if strings.ContainsAny(s, " ") || base == 10 && strings.ContainsAny(s, "afF") {
		if got != 0 || err != api.ErrChar {
			t.Errorf("%q with base %d = %d, %d", s, base, got, err)
		}
		return
	}
	n, ok := new(big.Int).SetString(s, base)
	switch {
	case !ok:
		if got != 0 || err != api.ErrEmpty {
			t.Errorf("%q with base %d = %d, %d", s, base, got, err)
		}
	case n.Cmp(new(big.Int).SetUint64(most)) > 0:
		if got != 0 || err != api.ErrRange {
			t.Errorf("%q with base %d at most %d = %d, %d", s, base, most, got, err)
		}
	case err != api.OK || n.Uint64() != got:
		t.Errorf("%q with base %d at most %d = %d, %d", s, base, most, got, err)
	}
}

func TestP4_3Format(t *testing.T) {
	for n, want := range map[uint64]string{0: "0", 7: "7", 10: "10", 1000: "1000", all: "18446744073709551615"} {
		if got := Format(n); got != want {
			t.Errorf("Format(%d) = %q", n, got)
		}
		if back, err := Strict(Format(n), all); back != n || err != api.OK {
			t.Errorf("Strict(Format(%d)) = %d, %d", n, back, err)
		}
	}
}

func TestP4_4AddAndSub(t *testing.T) {
	for _, c := range []struct{ a, b, sum, difference uint64 }{
		{0, 0, 0, 0}, {2, 3, 5, 0}, {3, 2, 5, 1}, {all, 0, all, all}, {all, 1, all, all - 1}, {1, all, all, 0}, {all, all, all, 0}, {all - 1, 1, all, all - 2}, {all - 1, 2, all, all - 3}, {1 << 63, 1 << 63, all, 0}, {5, 5, 10, 0},
	} {
		if got := Add(c.a, c.b); got != c.sum || Add(c.b, c.a) != got {
			t.Errorf("Add(%d, %d) = %d", c.a, c.b, got)
		}
		if got := Sub(c.a, c.b); got != c.difference {
			t.Errorf("Sub(%d, %d) = %d", c.a, c.b, got)
		}
	}
	few := []uint64{0, 1, 2, 1 << 63, all - 2, all - 1, all}
	for _, a := range few {
		for _, b := range few {
			for _, c := range few {
				if Add(Add(a, b), c) != Add(a, Add(b, c)) {
					t.Errorf("Add of %d, %d, %d is not associative", a, b, c)
				}
			}
			if a <= all-b && Sub(Add(a, b), b) != a {
				t.Errorf("Sub(Add(%d, %d), %d) = %d", a, b, b, Sub(Add(a, b), b))
			}
		}
	}
}
