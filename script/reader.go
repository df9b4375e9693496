package script

import (
	"math"
	"strings"

	"webfinger/api"
	"webfinger/host"
	"webfinger/number"
	"webfinger/token"
)

// reader collects a script from its lines.
type reader struct{ script api.Script }

// take reads one line.
func (r *reader) take(line string) api.Errno {
	if line == "" || line[0] == '#' {
		return api.OK
	}
	word, rest, hasRest := strings.Cut(line, " ")
	switch word {
	case capacityWord:
		n, err := number.Strict(rest, api.MaxCapacity)
		if err != api.OK {
			return api.ErrLine
		}
		r.script.Capacity = int(n)
		return api.OK
	case answerWord:
		return r.takeAnswer(rest)
	}
	o, ok := readOp(word, rest, hasRest)
	if !ok {
		return api.ErrLine
	}
	if len(r.script.Ops) >= api.MaxOps {
		return api.ErrTooMany
	}
	r.script.Ops = append(r.script.Ops, o)
	return api.OK
}

func (r *reader) takeAnswer(text string) api.Errno {
	a, ok := readAnswer(text)
	if !ok {
		return api.ErrLine
	}
	if len(r.script.Answers) >= api.MaxAnswers {
		return api.ErrTooMany
	}
	r.script.Answers = append(r.script.Answers, a)
	return api.OK
}

// readOp returns the operation with a first word and what follows it.
func readOp(word, rest string, hasRest bool) (api.Op, bool) {
	switch word {
	case resolveWord:
		return api.Op{Kind: api.OpResolve, Text: rest}, hasRest
	case derefWord:
		return api.Op{Kind: api.OpDeref, Text: rest}, hasRest
	case tickWord:
		ticks, err := number.Strict(rest, math.MaxUint64)
		return api.Op{Kind: api.OpTick, Ticks: ticks}, err == api.OK
	case clearWord:
		return api.Op{Kind: api.OpClear}, !hasRest
	}
	return api.Op{}, false
}

// readAnswer returns the answer of what follows the first word of its line.
func readAnswer(text string) (api.Answer, bool) {
	rest, ok := text, true
	next := func() string {
		word, after, found := strings.Cut(rest, " ")
		rest, ok = after, ok && found && word != ""
		return word
	}
	numberUpTo := func(most uint64) uint64 {
		n, err := number.Strict(next(), most)
		ok = ok && err == api.OK
		return n
	}
	origin := next()
	h, err := host.Parse(origin)
	ok = ok && err == api.OK && host.Format(h) == origin
	a := api.Answer{Host: h.Host, Port: h.Port}
	a.From = numberUpTo(math.MaxUint64)
	a.Until = numberUpTo(math.MaxUint64)
	a.Fail = int(numberUpTo(api.FailTimeout))
	a.Target = next()
	raw, isQuoted := unquote(rest)
	a.Raw = raw
	return a, ok && isQuoted
}

// unquote returns the string of a text that is one JSON string in canonical form.
func unquote(s string) (string, bool) {
	// If there is another token, or an error, s is not the quoted form of its text.
	t, _, _ := token.Next(s, 0)
	quoted, err := token.Quote(t.Text)
	return t.Text, err == api.OK && quoted == s
}
