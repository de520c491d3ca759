package query

import (
	"slices"

	"rhizome/api"
	"rhizome/names"
)

func isPattern(v api.View) bool {
	return v.Kind == api.KPattern && v.Label == "" && areAtoms(v.Atoms) && areOutputs(v.Out, v.Atoms)
}

func isReach(v api.View) bool {
	return v.Kind == api.KReach && names.Is(v.Label) && len(v.Out) == 0 && len(v.Atoms) == 0
}

func areAtoms(l []api.Atom) bool {
	if len(l) < 1 || len(l) > api.MaxAtoms {
		return false
	}
	for _, a := range l {
		if !names.Is(a.From) || !names.Is(a.Label) || !names.Is(a.To) {
			return false
		}
	}
	return true
}

// areOutputs asks for no names: a variable of an atom is one.
func areOutputs(l []string, of []api.Atom) bool {
	if len(l) < 1 || len(l) > api.MaxOut {
		return false
	}
	for i, name := range l {
		if slices.Contains(l[:i], name) || !isBound(name, of) {
			return false
		}
	}
	return true
}

// isBound tells whether a name is a variable of an atom.
func isBound(name string, of []api.Atom) bool {
	for _, a := range of {
		if a.From == name || a.To == name {
			return true
		}
	}
	return false
}
