// Package jsonmake makes JSON values for the layers that encode documents.
package jsonmake

import "webfinger/api"

// Text returns a string.
func Text(s string) api.Value { return api.Value{Kind: api.JSONString, Text: s} }

// Texts returns the array of strings.
func Texts(list []string) api.Value {
	var values []api.Value
	for _, s := range list {
		values = append(values, Text(s))
	}
	return Array(values...)
}

// Array returns the array of values.
func Array(values ...api.Value) api.Value {
	return api.Value{Kind: api.JSONArray, Items: values}
}

// Object collects the members of an object.
type Object struct {
	keys  []string
	items []api.Value
}

// Add adds a member.
func (o *Object) Add(name string, v api.Value) {
	o.keys = append(o.keys, name)
	o.items = append(o.items, v)
}

// AddFilled adds a member if it has a text or items.
func (o *Object) AddFilled(name string, v api.Value) {
	if v.Text != "" || len(v.Items) > 0 {
		o.Add(name, v)
	}
}

// Value returns the object of the members so far.
func (o *Object) Value() api.Value {
	return api.Value{Kind: api.JSONObject, Keys: o.keys, Items: o.items}
}
