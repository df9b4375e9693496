package jrd

import (
	"webfinger/api"
	"webfinger/jsondoc"
)

// failure keeps the first error.
type failure struct{ err api.Errno }

func (f *failure) fail(err api.Errno) {
	if f.err == api.OK {
		f.err = err
	}
}

// decoder reads the members of an object; after an error it reads nothing more.
type decoder struct {
	failure
	object api.Value
}

func newDecoder(v api.Value) *decoder {
	d := &decoder{object: v}
	if v.Kind != api.JSONObject {
		d.fail(api.ErrShape)
	}
	return d
}

// member returns the member with a name if it is there and of a kind.
func (d *decoder) member(name string, kind int) (api.Value, bool) {
	if d.err != api.OK {
		return api.Value{}, false
	}
	v, ok := jsondoc.Get(d.object, name)
	if ok && v.Kind != kind {
		d.fail(api.ErrShape)
	}
	return v, ok && v.Kind == kind
}

func (d *decoder) text(name string) string {
	v, _ := d.member(name, api.JSONString)
	return v.Text
}

// requiredText returns the text of a member that must be there.
func (d *decoder) requiredText(name string) string {
	v, ok := d.member(name, api.JSONString)
	if !ok {
		d.fail(api.ErrShape)
	}
	return v.Text
}

// items returns the items of an array of at most so many.
func (d *decoder) items(name string, most int) []api.Value {
	v, ok := d.member(name, api.JSONArray)
	if ok && len(v.Items) > most {
		d.fail(api.ErrTooMany)
		return nil
	}
	return v.Items
}

func (d *decoder) texts(name string) []string {
	var texts []string
	for _, item := range d.items(name, api.MaxNames) {
		if item.Kind != api.JSONString {
			d.fail(api.ErrShape)
			return nil
		}
		texts = append(texts, item.Text)
	}
	return texts
}

// properties returns the members of an object of strings, among which there may be null.
func (d *decoder) properties(name string, mayBeNull bool) []api.Property {
	v, ok := d.member(name, api.JSONObject)
	count := min(len(v.Keys), len(v.Items))
	if ok && count > api.MaxNames {
		d.fail(api.ErrTooMany)
		return nil
	}
	var list []api.Property
	for i := range count {
		item := v.Items[i]
		isNull := mayBeNull && item.Kind == api.JSONNull
		if !isNull && item.Kind != api.JSONString {
			d.fail(api.ErrShape)
			return nil
		}
		p := api.Property{Name: v.Keys[i], Null: isNull}
		if !isNull {
			p.Value = item.Text
		}
		list = append(list, p)
	}
	return list
}

func (d *decoder) links(name string) []api.Link {
	var list []api.Link
	for _, item := range d.items(name, api.MaxLinks) {
		inner := newDecoder(item)
		list = append(list, api.Link{
			Rel:        inner.requiredText("rel"),
			Type:       inner.text("type"),
			Href:       inner.text("href"),
			Template:   inner.text("template"),
			Titles:     inner.properties("titles", false),
			Properties: inner.properties("properties", true),
		})
		if inner.err != api.OK {
			d.fail(inner.err)
			return nil
		}
	}
	return list
}
