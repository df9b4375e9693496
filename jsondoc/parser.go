package jsondoc

import (
	"webfinger/api"
	"webfinger/token"
)

// state says what the parser expects next.
type state int

const (
	value        state = iota // a value
	valueOrClose              // the first item of an array, or its end
	key                       // a key
	keyOrClose                // the first key of an object, or its end
	colon                     // the colon after a key
	commaOrClose              // what follows an item
	end                       // the end of the text
	finished                  // nothing
)

// container is an array or object whose end has not come yet.
type container struct {
	value api.Value
	keys  map[string]bool
}

// parser takes the tokens of a text; its stack has the containers around the next token.
type parser struct {
	state state
	stack []container
	nodes int
	root  api.Value
}

func (p *parser) take(t api.Token) api.Errno {
	switch p.state {
	case value:
		return p.begin(t)
	case valueOrClose, keyOrClose:
		if p.isClose(t) {
			p.close()
			return api.OK
		}
		if p.state == keyOrClose {
			return p.addKey(t)
		}
		return p.begin(t)
	case key:
		return p.addKey(t)
	case colon:
		if isPunct(t, ":") {
			p.state = value
			return api.OK
		}
	case commaOrClose:
		return p.goOn(t)
	case end:
		if t.Kind == api.TokenEnd {
			p.state = finished
			return api.OK
		}
	}
	return api.ErrSyntax
}

// begin takes the first token of a value.
func (p *parser) begin(t api.Token) api.Errno {
	v := api.Value{Kind: valueKind(t)}
	isContainer := v.Kind == api.JSONArray || v.Kind == api.JSONObject
	switch {
	case v.Kind == 0:
		return api.ErrSyntax
	case isContainer && len(p.stack) >= api.MaxDepth:
		return api.ErrTooDeep
	case v.Kind == api.JSONString:
		v.Text = t.Text
	case v.Kind == api.JSONNumber:
		text, err := token.Number(t.Text)
		if err != api.OK {
			return err
		}
		v.Text = text
	}
	if p.nodes >= api.MaxNodes {
		return api.ErrTooLarge
	}
	p.nodes++
	if isContainer {
		p.open(v)
	} else {
		p.add(v)
	}
	return api.OK
}

// open puts an array or object without items on the stack.
func (p *parser) open(v api.Value) {
	c := container{value: v}
	p.state = valueOrClose
	if v.Kind == api.JSONObject {
		c.keys = map[string]bool{}
		p.state = keyOrClose
	}
	p.stack = append(p.stack, c)
}

// add puts a whole value where it belongs.
func (p *parser) add(v api.Value) {
	if len(p.stack) == 0 {
		p.root, p.state = v, end
		return
	}
	top := p.top()
	top.value.Items = append(top.value.Items, v)
	p.state = commaOrClose
}

// close takes the innermost array or object from the stack.
func (p *parser) close() {
	v := p.top().value
	p.stack = p.stack[:len(p.stack)-1]
	p.add(v)
}

// goOn takes the token after an item.
func (p *parser) goOn(t api.Token) api.Errno {
	switch {
	case p.isClose(t):
		p.close()
	case !isPunct(t, ","):
		return api.ErrSyntax
	case p.top().value.Kind == api.JSONObject:
		p.state = key
	default:
		p.state = value
	}
	return api.OK
}

func (p *parser) addKey(t api.Token) api.Errno {
	if t.Kind != api.TokenString {
		return api.ErrSyntax
	}
	top := p.top()
	if top.keys[t.Text] {
		return api.ErrDuplicate
	}
	top.keys[t.Text] = true
	top.value.Keys = append(top.value.Keys, t.Text)
	p.state = colon
	return api.OK
}

// top returns the innermost array or object; there is one in all states but value and end.
func (p *parser) top() *container { return &p.stack[len(p.stack)-1] }

// isClose reports whether a token ends the innermost array or object.
func (p *parser) isClose(t api.Token) bool {
	if p.top().value.Kind == api.JSONObject {
		return isPunct(t, "}")
	}
	return isPunct(t, "]")
}

func isPunct(t api.Token, text string) bool { return t.Kind == api.TokenPunct && t.Text == text }

// valueKind returns the kind of the value that a token begins, 0 if it begins none.
func valueKind(t api.Token) int {
	switch {
	case t.Kind == api.TokenString:
		return api.JSONString
	case t.Kind == api.TokenNumber:
		return api.JSONNumber
	case isPunct(t, "["):
		return api.JSONArray
	case isPunct(t, "{"):
		return api.JSONObject
	case t.Kind != api.TokenWord:
		return 0
	}
	switch t.Text {
	case "true":
		return api.JSONTrue
	case "false":
		return api.JSONFalse
	}
	return api.JSONNull
}
