package script

import (
	"strconv"
	"strings"

	"webfinger/api"
	"webfinger/jsonwrite"
)

// Report returns a line for each result.
func Report(l []api.Result) string {
	var text strings.Builder
	for _, r := range l {
		text.WriteString(strings.Join(reportWords(r), " ") + "\n")
	}
	return text.String()
}

func reportWords(r api.Result) []string {
	code := strconv.Itoa(int(r.Err))
	switch {
	case r.Verdict.ID != api.ID{}:
		return verdictWords(r, code)
	case r.Deref.URL != "":
		return []string{"url", r.Deref.URL}
	case r.Deref.Value.Kind != 0:
		text, err := jsonwrite.Write(r.Deref.Value)
		if err != api.OK {
			return []string{"value"}
		}
		return []string{"value", text}
	}
	return []string{"error", code}
}

func verdictWords(r api.Result, code string) []string {
	origin := "fetched"
	if r.Cached {
		origin = "cached"
	}
	words := []string{"verdict", code, origin, r.Verdict.ID.Text}
	if r.Verdict.Profile != (api.ID{}) {
		words = append(words, r.Verdict.Profile.Text)
	}
	return words
}
