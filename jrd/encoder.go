package jrd

import "webfinger/api"

// encoder collects the members of an object that are not empty.
type encoder struct {
	keys  []string
	items []api.Value
}

func (e *encoder) value() api.Value {
	return api.Value{Kind: api.JSONObject, Keys: e.keys, Items: e.items}
}

func (e *encoder) add(name string, v api.Value) {
	e.keys = append(e.keys, name)
	e.items = append(e.items, v)
}

func (e *encoder) addText(name, text string) {
	if text != "" {
		e.add(name, textValue(text))
	}
}

func (e *encoder) addItems(name string, items []api.Value) {
	if len(items) > 0 {
		e.add(name, api.Value{Kind: api.JSONArray, Items: items})
	}
}

func (e *encoder) addProperties(name string, list []api.Property) {
	if len(list) == 0 {
		return
	}
	var inner encoder
	for _, p := range list {
		if p.Null {
			inner.add(p.Name, api.Value{Kind: api.JSONNull})
		} else {
			inner.add(p.Name, textValue(p.Value))
		}
	}
	e.add(name, inner.value())
}

func encodeLink(link api.Link) api.Value {
	var e encoder
	e.add("rel", textValue(link.Rel))
	e.addText("type", link.Type)
	e.addText("href", link.Href)
	e.addText("template", link.Template)
	e.addProperties("titles", link.Titles)
	e.addProperties("properties", link.Properties)
	return e.value()
}

func textValue(text string) api.Value { return api.Value{Kind: api.JSONString, Text: text} }

func textValues(texts []string) []api.Value {
	values := make([]api.Value, len(texts))
	for i, text := range texts {
		values[i] = textValue(text)
	}
	return values
}
