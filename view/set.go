package view

import (
	"maps"
	"slices"
	"strings"

	"rhizome/api"
)

// A set of edges.
type set map[api.Edge]struct{}

func setOf(l []api.Edge) set {
	out := set{}
	for _, e := range l {
		out[e] = struct{}{}
	}
	return out
}

func (s set) has(e api.Edge) bool {
	_, ok := s[e]
	return ok
}

// list is the edges, in no order.
func (s set) list() []api.Edge { return slices.Collect(maps.Keys(s)) }

// put keeps edges that are handed in: their texts are copied.
func (s set) put(l []api.Edge) {
	for _, e := range l {
		e.Label = strings.Clone(e.Label)
		s[e] = struct{}{}
	}
}

func (s set) take(l []api.Edge) {
	for _, e := range l {
		delete(s, e)
	}
}
