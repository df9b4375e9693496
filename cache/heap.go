package cache

import (
	"container/heap"

	"webfinger/api"
)

// byExpiry is a heap of places of entries; the least expiry is on top, of several the first one.
type byExpiry struct {
	entries []api.Entry
	places  []int
}

// firstToExpire returns the place of the entry that is evicted first; there is at least one entry.
func firstToExpire(entries []api.Entry) int {
	h := &byExpiry{entries: entries}
	for i := range entries {
		h.places = append(h.places, i)
	}
	heap.Init(h)
	place, _ := heap.Pop(h).(int)
	return place
}

func (h *byExpiry) Len() int { return len(h.places) }

func (h *byExpiry) Less(i, j int) bool {
	a, b := h.places[i], h.places[j]
	if h.entries[a].Expiry != h.entries[b].Expiry {
		return h.entries[a].Expiry < h.entries[b].Expiry
	}
	return a < b
}

func (h *byExpiry) Swap(i, j int) { h.places[i], h.places[j] = h.places[j], h.places[i] }

func (h *byExpiry) Push(x any) {
	if place, ok := x.(int); ok {
		h.places = append(h.places, place)
	}
}

func (h *byExpiry) Pop() any {
	last := len(h.places) - 1
	place := h.places[last]
	h.places = h.places[:last]
	return place
}
