package jsonmake

import (
	"reflect"
	"testing"

	"webfinger/api"
	"webfinger/jsonwrite"
)

func TestValues(t *testing.T) {
	var empty, o Object
	o.Add("none", Text(""))
	o.AddFilled("text", Text("x"))
	o.AddFilled("no text", Text(""))
	o.AddFilled("array", Array(Text("a"), empty.Value()))
	o.AddFilled("one", Array(Text("")))
	o.AddFilled("no array", Texts(nil))
	o.AddFilled("no object", empty.Value())
	o.Add("texts", Texts([]string{"b", ""}))
	o.Add("empty", Array())
	v := o.Value()
	if got, err := jsonwrite.Write(v); got != `{"array":["a",{}],"empty":[],"none":"","one":[""],"text":"x","texts":["b",""]}` || err != api.OK {
		t.Errorf("%s, %d", got, err)
	}
	if !reflect.DeepEqual(v.Keys, []string{"none", "text", "array", "one", "texts", "empty"}) {
		t.Errorf("Keys = %q", v.Keys)
	}
}
