// Package naming finds the identifiers that documents give to their subjects.
package naming

import (
	"slices"

	"webfinger/api"
	"webfinger/ident"
)

// Others returns the different identifiers among texts, without id, at most MaxNames of them.
func Others(id api.ID, texts ...string) []api.ID {
	var names []api.ID
	for _, text := range texts {
		name, err := ident.Parse(text)
		if err == api.OK && name != id && !slices.Contains(names, name) && len(names) < api.MaxNames {
			names = append(names, name)
		}
	}
	return names
}
