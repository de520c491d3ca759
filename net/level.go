package net

import (
	"iter"

	"rhizome/api"
	"rhizome/key"
	"rhizome/step"
)

// A level is that of an atom. It keeps what meets there: the rows of the atoms ahead, and the atom's edges, both by
// what such a row tells of such an edge, so that what comes or goes on one side finds what it meets on the other.
type level struct {
	step  step.Step
	rows  shelves[string, api.Tuple] // by their bytes
	edges shelves[step.Ends, struct{}]
	count int // of the rows that they make
}

func newLevel(s step.Step) *level {
	return &level{step: s, rows: shelves[string, api.Tuple]{}, edges: shelves[step.Ends, struct{}]{}}
}

// between is the rows of the atoms up to this one that lie between the level and a greater one, which has some rows
// and edges more: each once.
func (l *level) between(rows []api.Tuple, edges []api.Edge) iter.Seq[api.Tuple] {
	return func(yield func(api.Tuple) bool) {
		more := shelves[step.Ends, struct{}]{}
		for _, e := range l.step.Fitting(edges) {
			told := l.step.Told(e)
			more.put(told, e, struct{}{})
			for _, row := range l.rows[told] {
				if !yield(l.step.With(row, e)) {
					return
				}
			}
		}
		for _, row := range rows {
			tells := l.step.Tells(row)
			for _, of := range []shelves[step.Ends, struct{}]{l.edges, more} {
				for e := range of[tells] {
					if !yield(l.step.With(row, e)) {
						return
					}
				}
			}
		}
	}
}

func (l *level) putRows(rows []api.Tuple) {
	for _, row := range rows {
		l.rows.put(l.step.Tells(row), bytesOf(row), row)
	}
}

func (l *level) takeRows(rows []api.Tuple) {
	for _, row := range rows {
		l.rows.take(l.step.Tells(row), bytesOf(row))
	}
}

func (l *level) putEdges(edges []api.Edge) {
	for _, e := range l.step.Fitting(edges) {
		l.edges.put(l.step.Told(e), e, struct{}{})
	}
}

func (l *level) takeEdges(edges []api.Edge) {
	for _, e := range l.step.Fitting(edges) {
		l.edges.take(l.step.Told(e), e)
	}
}

// shelves have things in maps of their own, by what a row tells of an edge.
type shelves[K comparable, V any] map[step.Ends]map[K]V

func (s shelves[K, V]) put(at step.Ends, k K, v V) {
	if s[at] == nil {
		s[at] = map[K]V{}
	}
	s[at][k] = v
}

func (s shelves[K, V]) take(at step.Ends, k K) {
	delete(s[at], k)
	if len(s[at]) == 0 {
		delete(s, at)
	}
}

// bytesOf are a key's bytes: of MaxAtoms atoms' variables there are never too many.
func bytesOf(t api.Tuple) string {
	var parts []key.Part
	for _, n := range t {
		parts = append(parts, key.Num(n))
	}
	b, _ := key.Encode(parts)
	return string(b)
}
