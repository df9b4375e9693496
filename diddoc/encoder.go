package diddoc

import (
	"webfinger/api"
	"webfinger/jsonmake"
)

func encodeMethod(m api.Method) api.Value {
	var object jsonmake.Object
	object.Add("id", jsonmake.Text(m.ID))
	object.Add("type", jsonmake.Text(m.Type))
	object.Add("controller", jsonmake.Text(m.Controller))
	return object.Value()
}

func encodeService(s api.Service) api.Value {
	var object jsonmake.Object
	object.Add("id", jsonmake.Text(s.ID))
	object.Add("type", jsonmake.Texts(s.Types))
	object.Add("serviceEndpoint", jsonmake.Texts(s.Endpoints))
	return object.Value()
}
