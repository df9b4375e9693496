package fieldtext

import (
	"testing"

	"webfinger/sample"
)

func TestIsByteAndIsText(t *testing.T) {
	for i, c := range sample.Bytes() {
		want := i >= 33 && i <= 126 || i == 32 || i == 9 || i >= 128
		if IsByte(c[0]) != want || IsText("a"+c+"b") != want || IsText(c) != want {
			t.Errorf("IsByte(%q) = %v", c, IsByte(c[0]))
		}
	}
	if !IsText("") {
		t.Error("IsText of nothing")
	}
}
