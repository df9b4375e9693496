package jsonwrite

import (
	"webfinger/api"
	"webfinger/token"
	"webfinger/utf8text"
)

// checker counts the values that it has seen.
type checker struct{ nodes int }

// accepts reports whether a value inside so many arrays and objects is valid.
func (c *checker) accepts(v api.Value, depth int) bool {
	c.nodes++
	if c.nodes > api.MaxNodes {
		return false
	}
	switch v.Kind {
	case api.JSONNull, api.JSONFalse, api.JSONTrue:
		return v.Text == "" && isLeaf(v)
	case api.JSONNumber:
		text, err := token.Number(v.Text)
		return err == api.OK && text == v.Text && isLeaf(v)
	case api.JSONString:
		return utf8text.Valid(v.Text) && isLeaf(v)
	case api.JSONArray:
		return len(v.Keys) == 0 && c.acceptsItems(v, depth+1)
	case api.JSONObject:
		return len(v.Keys) == len(v.Items) && c.acceptsItems(v, depth+1) && areKeys(v.Keys)
	}
	return false
}

// acceptsItems reports whether an array or object has no text, and valid items only.
func (c *checker) acceptsItems(v api.Value, depth int) bool {
	if v.Text != "" || depth > api.MaxDepth {
		return false
	}
	for _, item := range v.Items {
		if !c.accepts(item, depth) {
			return false
		}
	}
	return true
}

func isLeaf(v api.Value) bool { return len(v.Keys) == 0 && len(v.Items) == 0 }

// areKeys reports whether strings are UTF-8 and all different.
func areKeys(keys []string) bool {
	seen := make(map[string]bool, len(keys))
	for _, key := range keys {
		if seen[key] || !utf8text.Valid(key) {
			return false
		}
		seen[key] = true
	}
	return true
}
