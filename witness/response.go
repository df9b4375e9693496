package witness

import (
	"webfinger/api"
	"webfinger/body"
	"webfinger/did"
	"webfinger/diddoc"
	"webfinger/didfetch"
	"webfinger/finger"
	"webfinger/head"
	"webfinger/ident"
	"webfinger/jrd"
	"webfinger/jsondoc"
	"webfinger/redirect"
	"webfinger/template"
	"webfinger/weblink"
	"webfinger/weburl"
	"webfinger/world"
)

const relation = "lrdd"

// respond returns what the world says to a URL, and the status and the error of a true exchange.
func respond(l []api.Answer, now uint64, u api.URL) (api.Response, int, api.Errno) {
	raw, err := world.Ask(l, u, now)
	if err != api.OK {
		return api.Response{}, 0, err
	}
	h, size, err := head.Parse(raw)
	if err != api.OK {
		return api.Response{}, 0, err
	}
	r := api.Response{URL: u, Head: h}
	if redirect.IsRedirect(h.Status) {
		return r, h.Status, api.OK
	}
	if r.Body, err = body.Read(h, raw[size:], api.MaxBody); err != api.OK {
		return api.Response{}, h.Status, err
	}
	return r, h.Status, api.OK
}

// hostsInBody returns the hosts that a document names, whatever kind of document it is.
func hostsInBody(text string, id api.ID) []api.HostPort {
	v, _, err := jsondoc.Parse(text)
	if err != api.OK {
		return nil
	}
	var hosts []api.HostPort
	if j, err := jrd.Decode(v); err == api.OK {
		hosts = append(hosts, hostsInTemplates(j, id)...)
		hosts = append(hosts, authorities(finger.Names(j, id))...)
	}
	if doc, err := diddoc.Decode(v); err == api.OK {
		hosts = append(hosts, authorities(didfetch.Names(doc, id))...)
	}
	return hosts
}

func hostsInTemplates(j api.JRD, id api.ID) []api.HostPort {
	var hosts []api.HostPort
	for _, link := range jrd.Find(j, relation) {
		text, err := template.Expand(link.Template, id.Text)
		if err != api.OK {
			continue
		}
		if u, err := weburl.Parse(text); err == api.OK {
			hosts = append(hosts, weburl.Origin(u))
		}
	}
	return hosts
}

func authorities(ids []api.ID) []api.HostPort {
	var hosts []api.HostPort
	for _, id := range ids {
		hosts = append(hosts, ident.Authority(id))
	}
	return hosts
}

// linked returns the URL to which the Link header of a response leads.
func linked(r api.Response) (api.URL, bool) {
	// Without the field, or with a wrong one, there are no links.
	value, _ := head.Get(r.Head, "link")
	links, _ := weblink.Parse(value)
	target, ok := weblink.Find(links, relation)
	if !ok {
		return api.URL{}, false
	}
	u, err := weburl.Relative(r.URL, target)
	return u, err == api.OK
}

// names returns the identifiers that a response names if it is a document about an identifier.
func names(r api.Response, id api.ID) []api.ID {
	// What is read with an error is empty, so it has no names.
	if id.Kind != api.KindDID {
		f, _ := finger.Read(r, id)
		return f.Names
	}
	d, _ := did.ParseDID(id.Text)
	v, _ := didfetch.Read(r, d)
	doc, _ := diddoc.Decode(v)
	return didfetch.Names(doc, id)
}
