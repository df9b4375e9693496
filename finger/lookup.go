package finger

import (
	"webfinger/api"
	"webfinger/fetch"
	"webfinger/head"
	"webfinger/jrd"
	"webfinger/template"
	"webfinger/weblink"
	"webfinger/weburl"
)

const relation = "lrdd"

// lookup is what all ways to a JRD need.
type lookup struct {
	answers []api.Answer
	now     uint64
	id      api.ID
	query   api.URL
}

// outcome is what one way ends with; the finding has a trace also with an error.
type outcome struct {
	finding api.Finding
	err     api.Errno
	goesOn  bool
}

// Lookup looks for a JRD about an identifier.
func Lookup(l []api.Answer, now uint64, id api.ID) (api.Finding, api.Errno) {
	query, err := Query(id)
	if err != api.OK {
		return api.Finding{}, err
	}
	k := lookup{answers: l, now: now, id: id, query: query}
	var trace []api.Exchange
	var last outcome
	for _, way := range []func(lookup) outcome{lookup.byQuery, lookup.byHostMeta, lookup.byHome} {
		last = way(k)
		trace = append(trace, last.finding.Trace...)
		if !last.goesOn {
			break
		}
	}
	last.finding.Trace = trace
	return last.finding, last.err
}

func (k lookup) byQuery() outcome {
	o := k.read(k.query, api.ViaWebFinger)
	o.goesOn = o.err == api.ErrNotFound
	return o
}

func (k lookup) byHostMeta() outcome {
	// The identifier has a query, so it is valid and has this URL, too.
	u, _ := HostMeta(k.id)
	r, err := fetch.Run(k.answers, k.now, u)
	if err != api.OK {
		return failed(r.Trace, err)
	}
	if isMissing(r) {
		return outcome{finding: api.Finding{Trace: r.Trace}, goesOn: true}
	}
	j, err := readJRD(r)
	if err != api.OK {
		return failed(r.Trace, err)
	}
	target, err := k.expand(j)
	if err != api.OK {
		return failed(r.Trace, err)
	}
	return k.read(target, api.ViaHostMeta).after(r.Trace)
}

func (k lookup) byHome() outcome {
	// The identifier has a query, so it is valid and has this URL, too.
	u, _ := Home(k.id)
	r, err := fetch.Run(k.answers, k.now, u)
	if err != api.OK {
		return failed(r.Trace, err)
	}
	target, ok := linked(r)
	if !ok {
		return failed(r.Trace, api.ErrNotFound)
	}
	return k.read(target, api.ViaLink).after(r.Trace)
}

// read fetches the JRD at a URL.
func (k lookup) read(u api.URL, via int) outcome {
	r, err := fetch.Run(k.answers, k.now, u)
	if err != api.OK {
		return failed(r.Trace, err)
	}
	f, err := Read(r, k.id)
	if err != api.OK {
		return failed(r.Trace, err)
	}
	f.Via, f.Trace = via, r.Trace
	return outcome{finding: f}
}

// expand returns the URL to which the host metadata leads.
func (k lookup) expand(j api.JRD) (api.URL, api.Errno) {
	for _, link := range jrd.Find(j, relation) {
		if link.Template == "" {
			continue
		}
		text, err := template.Expand(link.Template, k.id.Text)
		if err != api.OK {
			return api.URL{}, api.ErrTemplate
		}
		u, err := weburl.Parse(text)
		if err != api.OK {
			return api.URL{}, api.ErrTemplate
		}
		return u, api.OK
	}
	return api.URL{}, api.ErrNoTemplate
}

// linked returns the URL to which the Link header of a response leads.
func linked(r api.Response) (api.URL, bool) {
	// Without the field, or with a wrong one, there are no links.
	value, _ := head.Get(r.Head, "link")
	links, _ := weblink.Parse(value)
	target, ok := weblink.Find(links, relation)
	if !ok {
		return api.URL{}, false
	}
	u, err := weburl.Relative(r.URL, target)
	return u, err == api.OK
}

func failed(trace []api.Exchange, err api.Errno) outcome {
	return outcome{finding: api.Finding{Trace: trace}, err: err}
}

// after returns an outcome with the exchanges that came before it.
func (o outcome) after(trace []api.Exchange) outcome {
	o.finding.Trace = append(trace, o.finding.Trace...)
	return o
}
