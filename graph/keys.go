package graph

import (
	"rhizome/api"
	"rhizome/key"
)

// A space is all keys that begin with its number.
type space int

// The spaces, and the parts that their keys have behind the number. Those of an edge are so that the edges
// of outSpace, and those to one node of inSpace, stand in the order of edges.
const (
	nodeSpace space = iota // node
	outSpace               // From, Label, To
	inSpace                // To, From, Label
	propSpace              // node, key; with the value's bytes
)

// keyOf is the bytes of a key of a space, or those that many of its keys begin with. Its texts are names: so
// it is never too long.
func keyOf(s space, parts ...key.Part) []byte {
	b, _ := key.Encode(append([]key.Part{key.Num(int(s))}, parts...))
	return b
}

func nodeKey(n int) []byte { return keyOf(nodeSpace, key.Num(n)) }

func outKey(e api.Edge) []byte {
	return keyOf(outSpace, key.Num(e.From), key.Str(e.Label), key.Num(e.To))
}

func inKey(e api.Edge) []byte {
	return keyOf(inSpace, key.Num(e.To), key.Num(e.From), key.Str(e.Label))
}

func propKey(n int, name string) []byte { return keyOf(propSpace, key.Num(n), key.Str(name)) }

// edgeOf is the edge of a key's parts behind its space's number.
func edgeOf(s space, p []key.Part) api.Edge {
	if s == inSpace {
		return api.Edge{From: p[1].N, Label: p[2].S, To: p[0].N}
	}
	return api.Edge{From: p[0].N, Label: p[1].S, To: p[2].N}
}
