package jsonwrite

import (
	"webfinger/api"
	"webfinger/token"
)

// buffer is a text of at most MaxBody bytes; what would be too much is dropped and noted.
type buffer struct {
	text   []byte
	isOver bool
}

func (b *buffer) put(s string) {
	if b.isOver = b.isOver || len(s) > api.MaxBody-len(b.text); !b.isOver {
		b.text = append(b.text, s...)
	}
}

func (b *buffer) putQuoted(s string) {
	quoted, err := token.Quote(s)
	// Of a string in a valid value only the length can be wrong.
	b.isOver = b.isOver || err != api.OK
	b.put(quoted)
}

// writer writes valid values.
type writer struct{ buffer }

func (w *writer) value(v api.Value) {
	switch v.Kind {
	case api.JSONNull:
		w.put("null")
	case api.JSONFalse:
		w.put("false")
	case api.JSONTrue:
		w.put("true")
	case api.JSONNumber:
		w.put(v.Text)
	case api.JSONString:
		w.putQuoted(v.Text)
	case api.JSONArray:
		w.put("[")
		w.items(v)
		w.put("]")
	case api.JSONObject:
		w.put("{")
		w.items(v)
		w.put("}")
	}
}

// items writes the items of an array or object, each with its key if there are keys.
func (w *writer) items(v api.Value) {
	for i, item := range v.Items {
		if i > 0 {
			w.put(",")
		}
		if i < len(v.Keys) {
			w.putQuoted(v.Keys[i])
			w.put(":")
		}
		w.value(item)
	}
}
