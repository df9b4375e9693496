package script

import (
	"strconv"
	"strings"

	"webfinger/api"
	"webfinger/host"
	"webfinger/jsonwrite"
	"webfinger/number"
	"webfinger/token"
	"webfinger/world"
)

// isValid reports whether there is a text of a script.
func isValid(x api.Script) bool {
	if x.Capacity < 0 || x.Capacity > api.MaxCapacity || !world.Valid(x.Answers) || len(x.Ops) > api.MaxOps {
		return false
	}
	for _, a := range x.Answers {
		isText := jsonwrite.Valid(api.Value{Kind: api.JSONString, Text: a.Raw})
		if !isText || strings.ContainsAny(a.Target, " \n") {
			return false
		}
	}
	for _, o := range x.Ops {
		if !isValidOp(o) {
			return false
		}
	}
	return true
}

func isValidOp(o api.Op) bool {
	switch o.Kind {
	case api.OpResolve, api.OpDeref:
		return o.Ticks == 0 && !strings.Contains(o.Text, "\n")
	case api.OpTick:
		return o.Text == ""
	case api.OpClear:
		return o.Text == "" && o.Ticks == 0
	}
	return false
}

// writer writes lines as long as they fit into a script.
type writer struct {
	text   strings.Builder
	isOver bool
}

func (w *writer) script(x api.Script) {
	w.line(capacityWord, strconv.Itoa(x.Capacity))
	for _, a := range x.Answers {
		w.answer(a)
	}
	for _, o := range x.Ops {
		w.op(o)
	}
}

func (w *writer) line(words ...string) {
	line := strings.Join(words, " ") + "\n"
	if w.isOver = w.isOver || w.text.Len()+len(line) > api.MaxScript; !w.isOver {
		w.text.WriteString(line)
	}
}

func (w *writer) answer(a api.Answer) {
	if w.isOver = w.isOver || len(a.Raw) > api.MaxScript; w.isOver {
		return
	}
	// Raw is UTF-8 and short enough, so there is no error.
	quoted, _ := token.Quote(a.Raw)
	origin := host.Format(api.HostPort{Host: a.Host, Port: a.Port})
	w.line(answerWord, origin, number.Format(a.From), number.Format(a.Until), strconv.Itoa(a.Fail), a.Target, quoted)
}

func (w *writer) op(o api.Op) {
	switch o.Kind {
	case api.OpResolve:
		w.line(resolveWord, o.Text)
	case api.OpDeref:
		w.line(derefWord, o.Text)
	case api.OpTick:
		w.line(tickWord, number.Format(o.Ticks))
	case api.OpClear:
		w.line(clearWord)
	}
}
