package host

import (
	"math"
	"net/netip"
	"regexp"
	"strings"
	"testing"

	"webfinger/api"
	"webfinger/sample"
)

// long is a name of MaxHost bytes.
var long = strings.Repeat(strings.Repeat("a", 49)+".", 5) + "abc"

func TestP5_1Host(t *testing.T) {
	label := strings.Repeat("x", api.MaxLabel)
	for s, want := range map[string]string{
		"a": "a", "Example.COM": "example.com", "a-b.c--d": "a-b.c--d", "1.2.3.4": "1.2.3.4", "255.255.255.255": "255.255.255.255", "0.0.0.0": "0.0.0.0",
		"1.2.3.4a": "1.2.3.4a", "1a": "1a", "123.x": "123.x", "1.2.3.4.e": "1.2.3.4.e", label + ".A": label + ".a", long: long, "0x1": "0x1",
	} {
		if got, err := Host(s); got != want || err != api.OK {
			t.Errorf("Host(%q) = %q, %d", s, got, err)
		}
	}
	for s, want := range map[string]api.Errno{
		"": api.ErrEmpty, long + "d": api.ErrLimit, strings.Repeat(".", 254): api.ErrLimit, strings.Repeat(".", 253): api.ErrHost,
		"1.2.3": api.ErrHost, "a..b": api.ErrHost, "a.": api.ErrHost, ".a": api.ErrHost, ".": api.ErrHost, "-a": api.ErrHost, "a-": api.ErrHost, "a.-b": api.ErrHost, "a-.b": api.ErrHost, "-": api.ErrHost,
		"256.1.1.1": api.ErrHost, "01.1.1.1": api.ErrHost, "1.1.1.1.1": api.ErrHost, "1": api.ErrHost, "a.1": api.ErrHost, label + "x.a": api.ErrHost,
		"a_b": api.ErrHost, "a b": api.ErrHost, "ä.de": api.ErrHost, "a:1": api.ErrHost, "[::1]": api.ErrHost, "a%41": api.ErrHost, "a\x00": api.ErrHost, "1.2.3.4.": api.ErrHost,
	} {
		if got, err := Host(s); got != "" || err != want {
			t.Errorf("Host(%q) = %q, %d", s, got, err)
		}
	}
}

func TestP5_1HostAgreesWithItsGrammar(t *testing.T) {
	label := `[A-Za-z0-9]([A-Za-z0-9-]*[A-Za-z0-9])?`
	name, digits := regexp.MustCompile(`^`+label+`(\.`+label+`)*$`), regexp.MustCompile(`(^|\.)[0-9]+$`)
	for s := range sample.Texts(6, "a", "B", "1", "-", ".", "25") {
		_, err := netip.ParseAddr(s)
		isAddress := err == nil
		want := isAddress || name.MatchString(s) && !digits.MatchString(s)
		got, errno := Host(s)
		if IsIPv4(s) != isAddress || (errno == api.OK) != want {
			t.Errorf("Host(%q) = %q, %d", s, got, errno)
		}
		if again, err := Host(got); want && (again != got || err != api.OK || got != strings.ToLower(s)) {
			t.Errorf("Host(Host(%q)) = %q, %d", s, again, err)
		}
	}
}

func TestP5_1IsIPv4(t *testing.T) {
	for s, want := range map[string]bool{"1.2.3.4": true, "0.0.0.0": true, "255.0.10.100": true, "256.0.0.0": false, "1.2.3": false, "1.2.3.4.5": false, "01.2.3.4": false, "00.0.0.0": false,
		"": false, "...": false, "1..2.3": false, "1.2.3.4.": false, ".1.2.3.4": false, "a.b.c.d": false, "1.2.3.4:5": false, " 1.2.3.4": false, "1.2.3.+4": false, "1.2.3.99999999999999999999": false, long: false} {
		if IsIPv4(s) != want {
			t.Errorf("IsIPv4(%q) = %v", s, !want)
		}
	}
}

func TestP5_2Port(t *testing.T) {
	for s, want := range map[string]int{"1": 1, "80": 80, "443": 443, "65535": 65535} {
		if got, err := Port(s); got != want || err != api.OK {
			t.Errorf("Port(%q) = %d, %d", s, got, err)
		}
	}
	for _, s := range []string{"", "0", "00", "01", "65536", "-1", "+1", "1 ", "a", "99999999999999999999999"} {
		if got, err := Port(s); got != 0 || err != api.ErrPort {
			t.Errorf("Port(%q) = %d, %d", s, got, err)
		}
	}
}

func TestP5_3Parse(t *testing.T) {
	for s, want := range map[string]api.HostPort{
		"a": {Host: "a"}, "Example.COM:443": {Host: "example.com"}, "example.com:8443": {Host: "example.com", Port: 8443}, "1.2.3.4:1": {Host: "1.2.3.4", Port: 1}, "a:80": {Host: "a", Port: 80},
	} {
		if got, err := Parse(s); got != want || err != api.OK {
			t.Errorf("Parse(%q) = %v, %d", s, got, err)
		}
	}
	for s, want := range map[string]api.Errno{
		"": api.ErrEmpty, ":80": api.ErrEmpty, ":": api.ErrEmpty, "a..b:x": api.ErrHost, "a:": api.ErrPort, "a:0": api.ErrPort, "a:080": api.ErrPort, "a:1:2": api.ErrPort, "a::1": api.ErrPort, "a:65536": api.ErrPort, "[::1]:80": api.ErrHost, "a :80": api.ErrHost,
		long + "d:0": api.ErrLimit, long + ":0": api.ErrPort,
	} {
		if got, err := Parse(s); got != (api.HostPort{}) || err != want {
			t.Errorf("Parse(%q) = %v, %d", s, got, err)
		}
	}
}

func TestP5_4Format(t *testing.T) {
	for want, h := range map[string]api.HostPort{
		"a": {Host: "a"}, "a:8443": {Host: "a", Port: 8443}, "a:443": {Host: "a", Port: 443}, "": {}, ":-7": {Port: -7}, "A B:99999": {Host: "A B", Port: 99999}, "x:-9223372036854775808": {Host: "x", Port: math.MinInt},
	} {
		if got := Format(h); got != want {
			t.Errorf("Format(%v) = %q", h, got)
		}
	}
}

func TestConsequences(t *testing.T) {
	for s := range sample.Texts(5, "a", "B.c", ".", ":", "443", "80", "0") {
		h, err := Parse(s)
		if err != api.OK {
			continue
		}
		if again, err := Parse(Format(h)); again != h || err != api.OK {
			t.Errorf("Parse(Format(Parse(%q))) = %v, %d", s, again, err)
		}
	}
}
