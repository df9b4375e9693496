package sample

import (
	"slices"
	"strings"
	"testing"
)

func TestTextsYieldsEveryCombinationOnce(t *testing.T) {
	got := slices.Collect(Texts(2, "a", "bc"))
	if want := []string{"", "a", "aa", "abc", "bc", "bca", "bcbc"}; !slices.Equal(got, want) {
		t.Errorf("Texts = %q", got)
	}
	for range Texts(2, "a", "b") {
		break
	}
}

func TestMixedIsRepeatableAndBounded(t *testing.T) {
	first := slices.Collect(Mixed(200, 5, "a", "b", "c"))
	if !slices.Equal(first, slices.Collect(Mixed(200, 5, "a", "b", "c"))) {
		t.Error("Mixed differs from call to call")
	}
	lengths := map[int]bool{}
	for _, s := range first {
		lengths[len(s)] = true
		if strings.Trim(s, "abc") != "" {
			t.Errorf("Mixed has %q", s)
		}
	}
	if len(first) != 200 || len(lengths) != 6 {
		t.Errorf("%d texts of %d lengths", len(first), len(lengths))
	}
	for range Mixed(9, 5, "a") {
		break
	}
}

func TestBytesAreAll(t *testing.T) {
	if b := Bytes(); len(b) != 256 || b[0] != "\x00" || b[255] != "\xff" {
		t.Errorf("Bytes = %q", b)
	}
}
