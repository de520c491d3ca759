package join

import (
	"rhizome/api"
	"rhizome/step"
)

// rowsOf is a pattern's rows, in no order; or, if it is too great, more than MaxRows of its first atoms.
func rowsOf(v api.View, edges []api.Edge) []api.Tuple {
	edges = once(edges)
	rows := []api.Tuple{nil} // of no atoms there is one, without variables
	for _, s := range step.Of(v) {
		if rows = with(rows, s, edges); len(rows) > MaxRows {
			return rows
		}
	}
	return rows
}

// once is a list's edges, each once: so no row comes twice.
func once(edges []api.Edge) []api.Edge {
	var out []api.Edge
	seen := map[api.Edge]struct{}{}
	for _, e := range edges {
		if _, ok := seen[e]; !ok {
			seen[e] = struct{}{}
			out = append(out, e)
		}
	}
	return out
}

// with is the rows of the atoms ahead with one atom more, but not many more than MaxRows.
func with(ahead []api.Tuple, s step.Step, edges []api.Edge) []api.Tuple {
	found := map[step.Ends][]step.Ends{} // the atom's edges, by what a row of the atoms ahead tells of them
	for _, e := range s.Fitting(edges) {
		told := s.Told(e)
		found[told] = append(found[told], e)
	}
	var out []api.Tuple
	for _, row := range ahead {
		for _, e := range found[s.Tells(row)] {
			if out = append(out, s.With(row, e)); len(out) > MaxRows {
				return out
			}
		}
	}
	return out
}
