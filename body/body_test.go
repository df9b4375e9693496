package body

import (
	"math"
	"strings"
	"testing"

	"webfinger/api"
	"webfinger/sample"
)

func TestP19_1Chunked(t *testing.T) {
	for s, want := range map[string]string{
		"0\r\n\r\n": "", "000\r\n\r\n": "", "3\r\nabc\r\n0\r\n\r\n": "abc", "0003;x=\"y\";\t\xff\r\nabc\r\n0;\r\n\r\n": "abc", "A\r\n0123456789\r\n1\r\n!\r\n0\r\nT: x\r\nanything\r\n\r\nrest": "0123456789!", "4\r\n\r\n\r\n\r\n0\r\n\r\n": "\r\n\r\n", "a\r\n0\r\n\r\n3\r\nab\r\n0\r\n\r\n\r\n": "0\r\n\r\n3\r\nab", "0\r\n \r\n\r\n": "", "0\r\n\r\n\n\r": "",
	} {
		if got, err := Chunked(s, 20); got != want || err != api.OK {
			t.Errorf("Chunked(%q) = %q, %d", s, got, err)
		}
	}
}

func TestP19_1ChunkedErrors(t *testing.T) {
	for s, want := range map[string]api.Errno{
		"": api.ErrTruncated, "3": api.ErrTruncated, "3;": api.ErrTruncated, "3;x": api.ErrTruncated, "3\r": api.ErrTruncated, "3;x\r": api.ErrTruncated, "3\r\n": api.ErrTruncated, "3\r\nab": api.ErrTruncated, "3\r\nabc": api.ErrTruncated, "3\r\nabc\r": api.ErrTruncated, "3\r\nabc\r\n": api.ErrTruncated, "0\r\n": api.ErrTruncated, "0\r\n\r": api.ErrTruncated, "0\r\nx": api.ErrTruncated, "0\r\nx\r\n": api.ErrTruncated, "0\r\nx\r\n\r": api.ErrTruncated, "14\r\n": api.ErrTruncated,
		"g\r\n": api.ErrFraming, "\r\n": api.ErrFraming, "\r": api.ErrFraming, "\n": api.ErrFraming, ";x\r\n": api.ErrFraming, " 3\r\nabc": api.ErrFraming, "3 \r\nabc": api.ErrFraming, "3 ;x\r\n": api.ErrFraming, "3\nabc": api.ErrFraming, "3;x\nabc": api.ErrFraming, "3\rx": api.ErrFraming, "3;x\rx": api.ErrFraming, "3\r\r\n": api.ErrFraming, "0x3\r\n": api.ErrFraming, "-1\r\n": api.ErrFraming, "3\r\nabcd": api.ErrFraming, "3\r\nabc\n": api.ErrFraming, "3\r\nabc\rx": api.ErrFraming, "3\r\nabc0\r\n\r\n": api.ErrFraming, "0\r\n\n": api.ErrFraming, "0\r\n\rx": api.ErrFraming, "0\r\nx\n": api.ErrFraming, "0\r\nx\ry": api.ErrFraming, "3\r\nabc\r\n\r\n": api.ErrFraming, "3\r\nabc\r\nx": api.ErrFraming,
		"15\r\n": api.ErrTooLarge, "15": api.ErrTruncated, "15\r": api.ErrTruncated, "15;\nx": api.ErrFraming, "15g": api.ErrFraming, "12\r\n" + strings.Repeat("x", 18) + "\r\n3\r\n": api.ErrTooLarge, "12\r\n" + strings.Repeat("x", 18) + "!!3\r\n": api.ErrFraming, strings.Repeat("f", 99) + "\r\n": api.ErrTooLarge, "1\r\nx\r\nffffffffffffffff\r\n": api.ErrTooLarge,
	} {
		if got, err := Chunked(s, 20); got != "" || err != want {
			t.Errorf("Chunked(%q) = %q, %d", s, got, err)
		}
	}
}

func TestP19_1ChunkedLimit(t *testing.T) {
	for _, c := range []struct {
		s    string
		most int
		err  api.Errno
	}{
		{"3\r\nabc\r\n0\r\n\r\n", 3, api.OK}, {"3\r\nabc\r\n0\r\n\r\n", 2, api.ErrTooLarge}, {"0\r\n\r\n", 0, api.OK}, {"0\r\n\r\n", -1, api.ErrTooLarge}, {"0\r\n\r\n", math.MinInt, api.ErrTooLarge}, {"7fffffffffffffff\r\nx", math.MaxInt, api.ErrTruncated}, {"8000000000000000\r\nx", math.MaxInt, api.ErrTooLarge}, {"2\r\nab\r\n2\r\ncd\r\n0\r\n\r\n", 3, api.ErrTooLarge}, {"2\r\nab\r\n2\r\ncd\r\n0\r\n\r\n", 4, api.OK}, {"1\r\nx\r\n7fffffffffffffff\r\n", math.MaxInt, api.ErrTooLarge},
	} {
		if _, err := Chunked(c.s, c.most); err != c.err {
			t.Errorf("Chunked(%q, %d) = %d", c.s, c.most, err)
		}
	}
}

// TestP19_1FirstErrorOnTheWay cuts and changes bodies at every place.
func TestP19_1FirstErrorOnTheWay(t *testing.T) {
	whole := "2;a=b\r\nab\r\n3\r\ncde\r\n0;z\r\nT: x\r\n\r\n"
	for i := range whole {
		if _, err := Chunked(whole[:i], 9); err != api.ErrTruncated {
			t.Errorf("Chunked(%q) = %d", whole[:i], err)
		}
		isMark := strings.IndexByte("\r\n", whole[i]) >= 0
		if changed := whole[:i] + "!"; isMark && whole[i] == '\n' {
			if _, err := Chunked(changed, 9); err != api.ErrFraming {
				t.Errorf("Chunked(%q) = %d", changed, err)
			}
		}
	}
}

func headOf(status int, fields ...string) api.Head {
	h := api.Head{Status: status}
	for i := 0; i < len(fields); i += 2 {
		h.Fields = append(h.Fields, api.Field{Name: fields[i], Value: fields[i+1]})
	}
	return h
}

type readCase struct {
	h    api.Head
	rest string
	most int
	want string
	err  api.Errno
}

func TestP19_2Read(t *testing.T) {
	const chunked = "3\r\nabc\r\n0\r\n\r\n"
	for _, c := range []readCase{
		{headOf(200), "abc", -1, "", api.ErrRange}, {headOf(204), "abc", -1, "", api.ErrRange}, {headOf(200), "abc", math.MinInt, "", api.ErrRange},
		{headOf(100), "abc", 0, "", api.OK}, {headOf(199, "content-length", "x"), "abc", 9, "", api.OK}, {headOf(204, "transfer-encoding", "x"), "abc", 9, "", api.OK}, {headOf(304, "content-length", "9"), "", 1, "", api.OK}, {headOf(99), "abc", 9, "abc", api.OK}, {headOf(205), "abc", 9, "abc", api.OK}, {headOf(303), "abc", 9, "abc", api.OK}, {headOf(0), "abc", 9, "abc", api.OK},
		{headOf(200), "abc", 3, "abc", api.OK}, {headOf(200), "abc", 2, "", api.ErrTooLarge}, {headOf(200), "", 0, "", api.OK}, {headOf(404), "\x00\xff", 9, "\x00\xff", api.OK},
		{headOf(200, "transfer-encoding", "chunked"), chunked + "x", 3, "abc", api.OK}, {headOf(200, "Transfer-Encoding", "ChunkED"), chunked, 3, "abc", api.OK}, {headOf(200, "transfer-encoding", "chunked"), chunked, 2, "", api.ErrTooLarge}, {headOf(200, "transfer-encoding", "chunked"), "3\r\nab", 9, "", api.ErrTruncated}, {headOf(200, "transfer-encoding", "chunked"), "x", 9, "", api.ErrFraming},
		{headOf(200, "transfer-encoding", "gzip"), chunked, 9, "", api.ErrFraming}, {headOf(200, "transfer-encoding", ""), chunked, 9, "", api.ErrFraming}, {headOf(200, "transfer-encoding", "gzip, chunked"), chunked, 9, "", api.ErrFraming}, {headOf(200, "transfer-encoding", "chunked", "transfer-encoding", "chunked"), chunked, 9, "", api.ErrFraming}, {headOf(200, "transfer-encoding", " chunked"), chunked, 9, "", api.ErrFraming}, {headOf(200, "transfer-encoding", "chunked", "content-length", "13"), chunked, 9, "", api.ErrFraming}, {headOf(200, "content-length", "3", "transfer-encoding", "chunked"), "3\r\nab", 9, "", api.ErrFraming},
		{headOf(200, "content-length", "3"), "abc", 3, "abc", api.OK}, {headOf(200, "Content-Length", "2"), "abc", 3, "ab", api.OK}, {headOf(200, "content-length", "0"), "abc", 0, "", api.OK}, {headOf(200, "content-length", "002"), "abc", 9, "ab", api.OK}, {headOf(200, "content-length", "2", "content-length", "2"), "abc", 9, "ab", api.OK}, {headOf(200, "content-length", " 2 ,\t2"), "abc", 9, "ab", api.OK},
		{headOf(200, "content-length", "4"), "abc", 9, "", api.ErrTruncated}, {headOf(200, "content-length", "4"), "abc", 3, "", api.ErrTooLarge}, {headOf(200, "content-length", "99999999999999999999999"), "abc", math.MaxInt, "", api.ErrTooLarge}, {headOf(200, "content-length", "9223372036854775807"), "abc", math.MaxInt, "", api.ErrTruncated},
		{headOf(200, "content-length", ""), "abc", 9, "", api.ErrFraming}, {headOf(200, "content-length", "2,"), "abc", 9, "", api.ErrFraming}, {headOf(200, "content-length", ","), "abc", 9, "", api.ErrFraming}, {headOf(200, "content-length", "2, 3"), "abc", 9, "", api.ErrFraming}, {headOf(200, "content-length", "2, 02"), "abc", 9, "", api.ErrFraming}, {headOf(200, "content-length", "-1"), "abc", 9, "", api.ErrFraming}, {headOf(200, "content-length", "x"), "abc", 9, "", api.ErrFraming}, {headOf(200, "content-length", "x, x"), "abc", 9, "", api.ErrFraming}, {headOf(200, "content-length", "2", "content-length", "3"), "abc", 9, "", api.ErrFraming}, {headOf(200, "content-length", "999, 1"), "abc", 9, "", api.ErrFraming}, {headOf(200, "content-length", "2 2"), "abc", 9, "", api.ErrFraming},
	} {
		if got, err := Read(c.h, c.rest, c.most); got != c.want || err != c.err {
			t.Errorf("Read(%+v, %q, %d) = %q, %d", c.h, c.rest, c.most, got, err)
		}
	}
}

func TestP19_3Encode(t *testing.T) {
	for _, c := range []struct {
		s    string
		size int
		want string
	}{
		{"", 3, "0\r\n\r\n"}, {"abc", 3, "3\r\nabc\r\n0\r\n\r\n"}, {"abcd", 3, "3\r\nabc\r\n1\r\nd\r\n0\r\n\r\n"}, {"ab", 0, "1\r\na\r\n1\r\nb\r\n0\r\n\r\n"}, {"ab", math.MinInt, "1\r\na\r\n1\r\nb\r\n0\r\n\r\n"}, {"ab", math.MaxInt, "2\r\nab\r\n0\r\n\r\n"}, {strings.Repeat("x", 27), 27, "1b\r\n" + strings.Repeat("x", 27) + "\r\n0\r\n\r\n"},
	} {
		if got := Encode(c.s, c.size); got != c.want {
			t.Errorf("Encode(%q, %d) = %q", c.s, c.size, got)
		}
	}
}

func TestConsequences(t *testing.T) {
	for s := range sample.Mixed(2000, 30, "a", "\r\n", "0\r\n\r\n", "\xff", ";") {
		for _, size := range []int{-1, 1, 2, 7, 16, 999} {
			encoded := Encode(s, size)
			for _, rest := range []string{"", "\r\n", "0"} {
				if got, err := Chunked(encoded+rest, len(s)); got != s || err != api.OK {
					t.Errorf("Chunked(Encode(%q, %d)) = %q, %d", s, size, got, err)
				}
			}
			cut := encoded[:len(encoded)/2]
			if got, err := Chunked(cut, len(s)); got != "" || err != api.ErrTruncated {
				t.Errorf("Chunked(%q) = %q, %d", cut, got, err)
			}
		}
	}
	for s := range sample.Texts(7, "3", "\r\n", "abc", ";", "0", "\r", "x") {
		if got, err := Chunked(s, 9); err != api.OK && got != "" {
			t.Errorf("Chunked(%q) = %q, %d", s, got, err)
		}
	}
}
