package diddoc

import (
	"webfinger/api"
	"webfinger/did"
	"webfinger/jsondoc"
)

// membersOf returns the function that looks up the members of a value.
func membersOf(v api.Value) func(name string) (api.Value, bool) {
	return func(name string) (api.Value, bool) { return jsondoc.Get(v, name) }
}

// textMember returns a member that is a string.
func textMember(v api.Value, name string) (string, bool) {
	text, ok := membersOf(v)(name)
	if !ok || text.Kind != api.JSONString {
		return "", false
	}
	return text.Text, true
}

// texts returns the strings of values.
func texts(values ...api.Value) ([]string, api.Errno) {
	if len(values) > api.MaxNames {
		return nil, api.ErrTooMany
	}
	var list []string
	for _, v := range values {
		if v.Kind != api.JSONString {
			return nil, api.ErrShape
		}
		list = append(list, v.Text)
	}
	return list, api.OK
}

func listed(v api.Value) ([]string, api.Errno) {
	if v.Kind != api.JSONArray {
		return nil, api.ErrShape
	}
	return texts(v.Items...)
}

func oneOrListed(v api.Value) ([]string, api.Errno) {
	if v.Kind == api.JSONArray {
		return listed(v)
	}
	return texts(v)
}

// elements decodes the elements of an array in a document about d.
func elements[T any](v api.Value, d api.DID, decode func(api.Value, api.DID) (T, api.Errno)) ([]T, api.Errno) {
	if v.Kind != api.JSONArray {
		return nil, api.ErrShape
	}
	if len(v.Items) > api.MaxNames {
		return nil, api.ErrTooMany
	}
	var list []T
	for _, item := range v.Items {
		element, err := decode(item, d)
		if err != api.OK {
			return nil, err
		}
		list = append(list, element)
	}
	return list, api.OK
}

func decodeMethod(v api.Value, d api.DID) (api.Method, api.Errno) {
	id, err := memberID(v, d)
	if err != api.OK {
		return api.Method{}, err
	}
	kind, hasKind := textMember(v, "type")
	controller, hasController := textMember(v, "controller")
	if !hasKind || !hasController {
		return api.Method{}, api.ErrShape
	}
	return api.Method{ID: id, Type: kind, Controller: controller}, api.OK
}

func decodeService(v api.Value, d api.DID) (api.Service, api.Errno) {
	member := membersOf(v)
	id, err := memberID(v, d)
	if err != api.OK {
		return api.Service{}, err
	}
	s := api.Service{ID: id}
	// A member that is missing has no kind, so it is neither a string nor an array.
	kind, _ := member("type")
	if s.Types, err = oneOrListed(kind); err != api.OK {
		return api.Service{}, err
	}
	endpoint, _ := member("serviceEndpoint")
	if endpoint.Kind == api.JSONObject {
		return s, api.OK
	}
	if s.Endpoints, err = oneOrListed(endpoint); err != api.OK {
		return api.Service{}, err
	}
	return s, api.OK
}

// memberID returns the id of a method or service in a document about d.
func memberID(v api.Value, d api.DID) (string, api.Errno) {
	ref, ok := textMember(v, "id")
	if !ok {
		return "", api.ErrShape
	}
	u, err := did.Resolve(d, ref)
	if err != api.OK {
		return "", api.ErrShape
	}
	return did.Format(u), api.OK
}
