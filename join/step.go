package join

import (
	"slices"

	"rhizome/api"
	"rhizome/query"
)

// ends are those of an edge.
type ends struct{ from, to int }

// A step leads from the rows of the atoms ahead of an atom to the rows of these and of it. The variables that
// the atoms ahead have are a row's beginning; one that is new comes behind it.
type step struct {
	from, to int             // where the atom's variables stand in a row
	known    int             // how many variables the atoms ahead have
	found    map[ends][]ends // the atom's edges, by what a row of the atoms ahead tells of them
}

// rowsOf is a pattern's rows, in no order; or, if it is too great, more than MaxRows of its first atoms.
func rowsOf(v api.View, edges []api.Edge) []api.Tuple {
	vars := query.Vars(v)
	edges = once(edges)
	rows := []api.Tuple{nil} // of no atoms there is one, without variables
	known := 0
	for _, a := range v.Atoms {
		s := newStep(vars, a, known, edges)
		if rows = s.rows(rows); len(rows) > MaxRows {
			return rows
		}
		known = max(known, s.from+1, s.to+1)
	}
	return rows
}

// once is a list's edges, each once: so no row comes twice.
func once(edges []api.Edge) []api.Edge {
	var out []api.Edge
	seen := map[api.Edge]struct{}{}
	for _, e := range edges {
		if _, ok := seen[e]; !ok {
			seen[e] = struct{}{}
			out = append(out, e)
		}
	}
	return out
}

func newStep(vars []string, a api.Atom, known int, edges []api.Edge) step {
	from, to := places(vars, a)
	s := step{from: from, to: to, known: known, found: map[ends][]ends{}}
	for _, e := range edges {
		if e.Label == a.Label && (from != to || e.From == e.To) {
			told := s.told(e)
			s.found[told] = append(s.found[told], ends{e.From, e.To})
		}
	}
	return s
}

// told is what a row of the atoms ahead tells of an edge: 0 for an end that it doesn't know.
func (s step) told(e api.Edge) ends {
	out := ends{e.From, e.To}
	if s.from >= s.known {
		out.from = 0
	}
	if s.to >= s.known {
		out.to = 0
	}
	return out
}

// tells is what a row of the atoms ahead tells of the atom's edge, likewise.
func (s step) tells(row api.Tuple) ends {
	var out ends
	if s.from < s.known {
		out.from = row[s.from]
	}
	if s.to < s.known {
		out.to = row[s.to]
	}
	return out
}

// rows are those of the atoms ahead with the atom, but not many more than MaxRows.
func (s step) rows(ahead []api.Tuple) []api.Tuple {
	var out []api.Tuple
	for _, row := range ahead {
		for _, e := range s.found[s.tells(row)] {
			if out = append(out, s.with(row, e)); len(out) > MaxRows {
				return out
			}
		}
	}
	return out
}

// with is a row with the variables that are new.
func (s step) with(row api.Tuple, e ends) api.Tuple {
	out := slices.Clone(row)
	if s.from == len(out) {
		out = append(out, e.from)
	}
	if s.to == len(out) {
		out = append(out, e.to)
	}
	return out
}
