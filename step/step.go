// Package step goes along a pattern, atom by atom: it leads from the rows of the atoms ahead of an atom to those with
// it, for the layers that make rows at once or keep them.
package step

import (
	"slices"
	"strings"

	"rhizome/api"
	"rhizome/query"
)

// Ends are those of an edge.
type Ends struct{ From, To int }

// A Step is that of an atom. The variables that the atoms ahead have are a row's beginning; one that is new comes
// behind it.
type Step struct {
	label    string
	from, to int // where the atom's variables stand in a row
	known    int // how many variables the atoms ahead have
}

// Of are a pattern's steps, in the order of its atoms.
func Of(v api.View) []Step {
	vars := query.Vars(v)
	var out []Step
	known := 0
	for _, a := range v.Atoms {
		s := Step{label: strings.Clone(a.Label), from: slices.Index(vars, a.From), to: slices.Index(vars, a.To), known: known}
		known = max(known, s.from+1, s.to+1)
		out = append(out, s)
	}
	return out
}

// Fitting are the ends of those of the edges that the atom may be.
func (s Step) Fitting(edges []api.Edge) []Ends {
	var out []Ends
	for _, e := range edges {
		if e.Label == s.label && (s.from != s.to || e.From == e.To) {
			out = append(out, Ends{e.From, e.To})
		}
	}
	return out
}

// Told is what a row of the atoms ahead tells of an edge that it goes on with: 0 for an end that it doesn't know.
func (s Step) Told(e Ends) Ends {
	if s.from >= s.known {
		e.From = 0
	}
	if s.to >= s.known {
		e.To = 0
	}
	return e
}

// Tells is what a row of the atoms ahead tells of the edges that it goes on with, likewise.
func (s Step) Tells(row api.Tuple) Ends {
	var out Ends
	if s.from < s.known {
		out.From = row[s.from]
	}
	if s.to < s.known {
		out.To = row[s.to]
	}
	return out
}

// With is a row of the atoms ahead, gone on with an edge of which it tells what is so.
func (s Step) With(row api.Tuple, e Ends) api.Tuple {
	out := slices.Clone(row)
	if s.from == len(out) {
		out = append(out, e.From)
	}
	if s.to == len(out) {
		out = append(out, e.To)
	}
	return out
}
