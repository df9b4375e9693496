package jrd

import (
	"webfinger/api"
	"webfinger/jsonmake"
)

func encodeLink(link api.Link) api.Value {
	var object jsonmake.Object
	object.Add("rel", jsonmake.Text(link.Rel))
	object.AddFilled("type", jsonmake.Text(link.Type))
	object.AddFilled("href", jsonmake.Text(link.Href))
	object.AddFilled("template", jsonmake.Text(link.Template))
	object.AddFilled("titles", encodeProperties(link.Titles))
	object.AddFilled("properties", encodeProperties(link.Properties))
	return object.Value()
}

func encodeProperties(list []api.Property) api.Value {
	var object jsonmake.Object
	for _, p := range list {
		if p.Null {
			object.Add(p.Name, api.Value{Kind: api.JSONNull})
		} else {
			object.Add(p.Name, jsonmake.Text(p.Value))
		}
	}
	return object.Value()
}
