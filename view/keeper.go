package view

import (
	"slices"

	"rhizome/api"
	"rhizome/dred"
	"rhizome/net"
	"rhizome/tuple"
)

// A keeper keeps a content: a net that of a pattern, a dred that of a reach.
type keeper interface {
	Do(edges []api.Edge, add bool) (api.Delta, api.Errno)
	Read() []api.Tuple
}

// keeperOf is that of a view in no edges, where none is too great.
func keeperOf(v api.View) keeper {
	if v.Kind == api.KReach {
		d, _ := dred.New(v.Label, nil)
		return d
	}
	n, _ := net.New(v, nil)
	return n
}

// told are those of the edges that the keeper is told of: a net would keep the others, too.
func (s *Standing) told(edges []api.Edge) []api.Edge {
	var out []api.Edge
	for _, e := range edges {
		if s.means(e.Label) {
			out = append(out, e)
		}
	}
	return out
}

// means tells whether edges of a label mean something to the content.
func (s *Standing) means(label string) bool {
	if _, ok := s.keeper.(*dred.Dred); ok {
		return label == s.view.Label
	}
	return slices.ContainsFunc(s.view.Atoms, func(a api.Atom) bool { return a.Label == label })
}

// step has edges go from the keeper, and then others come. If the view is too great with these, those that went come
// back: with them it wasn't.
func (s *Standing) step(gone, come []api.Edge) (api.Delta, api.Errno) {
	less, _ := s.tell(gone, false)
	more, e := s.tell(come, true)
	if e != api.OK {
		s.tell(gone, true)
		return api.Delta{}, e
	}
	both, _ := tuple.Then(less, more) // the one only deletes, the other only adds
	return both, api.OK
}

// tell tells the keeper of edges, if there are any: of none a dred would go through all its pairs.
func (s *Standing) tell(edges []api.Edge, add bool) (api.Delta, api.Errno) {
	if len(edges) == 0 {
		return api.Delta{}, api.OK
	}
	return s.keeper.Do(edges, add)
}
