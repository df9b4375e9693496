package diddoc

import "webfinger/api"

// encoder collects the members of an object.
type encoder struct {
	keys  []string
	items []api.Value
}

func (e *encoder) value() api.Value {
	return api.Value{Kind: api.JSONObject, Keys: e.keys, Items: e.items}
}

func (e *encoder) add(name string, v api.Value) {
	e.keys = append(e.keys, name)
	e.items = append(e.items, v)
}

// addFilled adds an array that has items.
func (e *encoder) addFilled(name string, v api.Value) {
	if len(v.Items) > 0 {
		e.add(name, v)
	}
}

func encodeMethod(m api.Method) api.Value {
	var e encoder
	e.add("id", textValue(m.ID))
	e.add("type", textValue(m.Type))
	e.add("controller", textValue(m.Controller))
	return e.value()
}

func encodeService(s api.Service) api.Value {
	var e encoder
	e.add("id", textValue(s.ID))
	e.add("type", textValues(s.Types))
	e.add("serviceEndpoint", textValues(s.Endpoints))
	return e.value()
}

// array returns the array of values.
func array(values ...api.Value) api.Value {
	return api.Value{Kind: api.JSONArray, Items: values}
}

func textValue(text string) api.Value { return api.Value{Kind: api.JSONString, Text: text} }

func textValues(list []string) api.Value {
	var values []api.Value
	for _, text := range list {
		values = append(values, textValue(text))
	}
	return array(values...)
}
