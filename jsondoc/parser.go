package jsondoc

import (
	"webfinger/api"
	"webfinger/token"
)

// state says what the parser expects next.
type state int

const (
	wantValue        state = iota // a value
	wantValueOrClose              // the first item of an array, or its end
	wantKey                       // a key
	wantKeyOrClose                // the first key of an object, or its end
	wantColon                     // the colon after a key
	wantCommaOrClose              // what follows an item
	wantEnd                       // the end of the text
	finished                      // nothing
)

// container is an array or object whose end has not come yet.
type container struct {
	value api.Value
	keys  map[string]bool
}

// parser takes the tokens of a text; its stack has the containers around the next token.
type parser struct {
	state state
	stack []container
	nodes int
	root  api.Value
}

func (p *parser) take(t api.Token) api.Errno {
	switch p.state {
	case wantValue:
		return p.begin(t)
	case wantValueOrClose, wantKeyOrClose:
		if p.isClose(t) {
			p.close()
			return api.OK
		}
		if p.state == wantKeyOrClose {
			return p.addKey(t)
		}
		return p.begin(t)
	case wantKey:
		return p.addKey(t)
	case wantColon:
		if isPunct(t, ":") {
			p.state = wantValue
			return api.OK
		}
	case wantCommaOrClose:
		return p.goOn(t)
	case wantEnd:
		if t.Kind == api.TokenEnd {
			p.state = finished
			return api.OK
		}
	}
	return api.ErrSyntax
}

// begin takes the first token of a value.
func (p *parser) begin(t api.Token) api.Errno {
	v := api.Value{Kind: valueKind(t)}
	isContainer := v.Kind == api.JSONArray || v.Kind == api.JSONObject
	switch {
	case v.Kind == 0:
		return api.ErrSyntax
	case isContainer && len(p.stack) >= api.MaxDepth:
		return api.ErrTooDeep
	case v.Kind == api.JSONString:
		v.Text = t.Text
	case v.Kind == api.JSONNumber:
		text, err := token.Number(t.Text)
		if err != api.OK {
			return err
		}
		v.Text = text
	}
	if p.nodes >= api.MaxNodes {
		return api.ErrTooLarge
	}
	p.nodes++
	if isContainer {
		p.open(v)
	} else {
		p.add(v)
	}
	return api.OK
}

// open puts an array or object without items on the stack.
func (p *parser) open(v api.Value) {
	c := container{value: v}
	p.state = wantValueOrClose
	if v.Kind == api.JSONObject {
		c.keys = map[string]bool{}
		p.state = wantKeyOrClose
	}
	p.stack = append(p.stack, c)
}

// add puts a whole value where it belongs.
func (p *parser) add(v api.Value) {
	if len(p.stack) == 0 {
		p.root, p.state = v, wantEnd
		return
	}
	top := p.top()
	top.value.Items = append(top.value.Items, v)
	p.state = wantCommaOrClose
}

// close takes the innermost array or object from the stack.
func (p *parser) close() {
	v := p.top().value
	p.stack = p.stack[:len(p.stack)-1]
	p.add(v)
}

// goOn takes the token after an item.
func (p *parser) goOn(t api.Token) api.Errno {
	switch {
	case p.isClose(t):
		p.close()
	case !isPunct(t, ","):
		return api.ErrSyntax
	case p.top().value.Kind == api.JSONObject:
		p.state = wantKey
	default:
		p.state = wantValue
	}
	return api.OK
}

func (p *parser) addKey(t api.Token) api.Errno {
	if t.Kind != api.TokenString {
		return api.ErrSyntax
	}
	top := p.top()
	if top.keys[t.Text] {
		return api.ErrDuplicate
	}
	top.keys[t.Text] = true
	top.value.Keys = append(top.value.Keys, t.Text)
	p.state = wantColon
	return api.OK
}

// top returns the innermost array or object; there is one whenever a key, a colon, a comma or an end of one is wanted.
func (p *parser) top() *container { return &p.stack[len(p.stack)-1] }

// isClose reports whether a token ends the innermost array or object.
func (p *parser) isClose(t api.Token) bool {
	if p.top().value.Kind == api.JSONObject {
		return isPunct(t, "}")
	}
	return isPunct(t, "]")
}

func isPunct(t api.Token, text string) bool { return t.Kind == api.TokenPunct && t.Text == text }

// valueKind returns the kind of the value that a token begins, 0 if it begins none.
func valueKind(t api.Token) int {
	switch {
	case t.Kind == api.TokenString:
		return api.JSONString
	case t.Kind == api.TokenNumber:
		return api.JSONNumber
	case isPunct(t, "["):
		return api.JSONArray
	case isPunct(t, "{"):
		return api.JSONObject
	case t.Kind != api.TokenWord:
		return 0
	}
	switch t.Text {
	case "true":
		return api.JSONTrue
	case "false":
		return api.JSONFalse
	}
	return api.JSONNull
}
