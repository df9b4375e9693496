package witness

import (
	"math/rand"
	"reflect"
	"slices"
	"strconv"
	"testing"

	"webfinger/api"
	"webfinger/binding"
	"webfinger/percent"
	"webfinger/weburl"
	"webfinger/world"
)

// worlds makes worlds of three hosts that redirect, link and refer to one another at random, the same ones in every run.
type worlds struct{ *rand.Rand }

var (
	worldHosts = []string{"a.example", "b.example", "c.example"}
	worldNames = []string{"acct:x@a.example", "acct:x@b.example", "https://b.example/x", "https://c.example/x", "did:web:c.example", "did:web:a.example", "mailto:x@c.example"}
)

func (w worlds) of(list []string) string { return list[w.Intn(len(list))] }

func (w worlds) url() string { return "https://" + w.of(worldHosts) + "/" + strconv.Itoa(w.Intn(4)) }

// response is mostly a document about a subject that names its partner.
func (w worlds) response(subject, partner string) string {
	if w.Intn(6) == 0 {
		partner = w.of(worldNames)
	}
	switch w.Intn(12) {
	case 0, 1:
		return "HTTP/1.1 302 -\r\nLocation: " + w.url() + "\r\n\r\n"
	case 2:
		return "HTTP/1.1 200 -\r\nLink: <" + w.url() + ">; rel=lrdd\r\n\r\n"
	case 3, 4, 5, 6:
		return "HTTP/1.1 404 -\r\nLink: <" + w.url() + ">; rel=lrdd\r\n\r\n"
	case 7:
		return jrdType + "\r\n" + `{"links":[{"rel":"lrdd","template":"` + w.url() + `?{uri}"},{"rel":"lrdd","template":"` + w.url() + `"}]}`
	}
	if subject[:4] == "did:" {
		return didType + `{"id":"` + subject + `","alsoKnownAs":["` + partner + `","` + w.of(worldNames) + `"]}`
	}
	return jrdType + "\r\n" + `{"subject":"` + subject + `","aliases":["` + w.of(worldNames) + `"],"links":[{"rel":"self","href":"` + partner + `"}]}`
}

func (w worlds) world() []api.Answer {
	var l []api.Answer
	pair := w.Perm(len(worldNames))[:2]
	for _, host := range worldHosts {
		add := func(target, subject, partner string) {
			if w.Intn(9) > 0 {
				l = append(l, api.Answer{Host: host, Target: target, Raw: w.response(subject, partner)})
			}
		}
		for i := range pair {
			name, partner := worldNames[pair[i]], worldNames[pair[1-i]]
			add("/.well-known/did.json", name, partner)
			add("/.well-known/webfinger?resource="+percent.Encode(name, ""), name, partner)
			for j := range 4 {
				add("/"+strconv.Itoa(j)+"?"+percent.Encode(name, ""), name, partner)
				add("/"+strconv.Itoa(j), name, partner)
			}
		}
		add("/", worldNames[0], worldNames[1])
		add("/.well-known/host-meta.json", worldNames[0], worldNames[1])
	}
	return l
}

func TestConsequencesInManyWorlds(t *testing.T) {
	w := worlds{rand.New(rand.NewSource(3))}
	accepted, long := 0, 0
	for range 1500 {
		l := w.world()
		for _, s := range worldNames {
			v := binding.Resolve(l, 0, s)
			if len(v.Trace) > 48 || !Allowed(l, 0, v) {
				t.Fatalf("%q: %+v", s, v)
			}
			for _, host := range worldHosts {
				h := api.HostPort{Host: host}
				isInTrace := slices.ContainsFunc(v.Trace, func(x api.Exchange) bool { return weburl.Origin(x.URL) == h })
				if !isInTrace && !reflect.DeepEqual(binding.Resolve(world.Without(l, h), 0, s), v) {
					t.Fatalf("%q depends on %q", s, host)
				}
			}
			if v.Err != api.OK {
				continue
			}
			accepted++
			if len(v.Trace) > 4 {
				long++
			}
			if err := Proves(l, 0, v); err != api.OK {
				t.Fatalf("%q is not proved: %d, %+v", s, err, v)
			}
		}
	}
	if accepted < 50 || long < 5 {
		t.Errorf("only %d verdicts are accepted, %d with more than 4 requests", accepted, long)
	}
}
