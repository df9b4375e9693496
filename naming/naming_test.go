package naming

import (
	"strconv"
	"testing"

	"webfinger/api"
	"webfinger/ident"
)

func TestOthers(t *testing.T) {
	id, _ := ident.Parse("acct:a@b")
	got := Others(id, "https://c", "x", "ACCT:a@B", "", "HTTPS://C/", "acct:A@b")
	if len(got) != 2 || got[0].Text != "https://c/" || got[1].Text != "acct:A@b" {
		t.Errorf("Others = %+v", got)
	}
	var many []string
	for i := range 99 {
		many = append(many, "acct:"+strconv.Itoa(i)+"@b")
	}
	if got := Others(id, many...); len(got) != api.MaxNames || got[63].Text != "acct:63@b" {
		t.Errorf("Others of many: %d", len(got))
	}
	if got := Others(api.ID{}); got != nil {
		t.Errorf("Others of nothing = %+v", got)
	}
}
