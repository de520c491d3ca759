package graph

import (
	"strings"

	"rhizome/api"
	"rhizome/key"
	"rhizome/names"
	"rhizome/val"
)

// refusal is why a change is refused; OK, if it isn't.
func (g *Graph) refusal(c api.Change) api.Errno {
	switch c.Kind {
	case api.CNode:
		return g.refusalOfNode(c.Node)
	case api.CNoNode:
		return g.refusalOfNoNode(c.Node)
	case api.CEdge:
		return g.refusalOfEdge(c.Edge)
	case api.CNoEdge:
		return noneUnless(g.Edge(c.Edge))
	case api.CProp:
		return g.refusalOfProp(c.Node, c.Key, c.Value)
	case api.CNoProp:
		_, ok := g.Prop(c.Node, c.Key)
		return noneUnless(ok)
	}
	return api.ErrRange
}

func (g *Graph) refusalOfNode(n int) api.Errno {
	switch {
	case n < 1 || n > api.MaxNode:
		return api.ErrRange
	case g.Node(n):
		return api.ErrTwice
	}
	return api.OK
}

func (g *Graph) refusalOfNoNode(n int) api.Errno {
	switch {
	case !g.Node(n):
		return api.ErrNone
	case g.countIn(outSpace, key.Num(n))+g.countIn(inSpace, key.Num(n))+g.countIn(propSpace, key.Num(n)) > 0:
		return api.ErrUse
	}
	return api.OK
}

func (g *Graph) refusalOfEdge(e api.Edge) api.Errno {
	switch {
	case !names.Is(e.Label):
		return api.ErrRange
	case !g.Node(e.From) || !g.Node(e.To):
		return api.ErrNone
	case g.Edge(e):
		return api.ErrTwice
	case g.countIn(outSpace) >= api.MaxEdges:
		return api.ErrFull
	}
	return api.OK
}

func (g *Graph) refusalOfProp(n int, name string, v api.Value) api.Errno {
	if !names.Is(name) {
		return api.ErrRange
	}
	if e := val.Check(v); e != api.OK {
		return e
	}
	if !g.Node(n) {
		return api.ErrNone
	}
	if old, ok := g.Prop(n, name); ok && val.Same(old, v) {
		return api.ErrTwice
	}
	return api.OK
}

func noneUnless(there bool) api.Errno {
	if !there {
		return api.ErrNone
	}
	return api.OK
}

// apply does a change that isn't refused.
func (g *Graph) apply(c api.Change) {
	switch c.Kind {
	case api.CNode:
		g.pairs.Put(nodeKey(c.Node), nil)
	case api.CNoNode:
		g.pairs.Delete(nodeKey(c.Node))
	case api.CEdge:
		g.pairs.Put(outKey(c.Edge), nil)
		g.pairs.Put(inKey(c.Edge), nil)
	case api.CNoEdge:
		g.pairs.Delete(outKey(c.Edge))
		g.pairs.Delete(inKey(c.Edge))
	case api.CProp:
		b, _ := val.Encode(c.Value)
		g.pairs.Put(propKey(c.Node, c.Key), b)
	case api.CNoProp:
		g.pairs.Delete(propKey(c.Node, c.Key))
	}
}

// wayBack is what leads back behind a change that isn't refused, and isn't done yet. Its texts are copies: an
// answer shares no memory with what was handed in.
func (g *Graph) wayBack(c api.Change) api.Change {
	switch c.Kind {
	case api.CNode:
		return api.Change{Kind: api.CNoNode, Node: c.Node}
	case api.CNoNode:
		return api.Change{Kind: api.CNode, Node: c.Node}
	case api.CEdge:
		return api.Change{Kind: api.CNoEdge, Edge: copyOf(c.Edge)}
	case api.CNoEdge:
		return api.Change{Kind: api.CEdge, Edge: copyOf(c.Edge)}
	}
	name := strings.Clone(c.Key)
	if old, ok := g.Prop(c.Node, name); ok {
		return api.Change{Kind: api.CProp, Node: c.Node, Key: name, Value: old}
	}
	return api.Change{Kind: api.CNoProp, Node: c.Node, Key: name}
}

func copyOf(e api.Edge) api.Edge {
	e.Label = strings.Clone(e.Label)
	return e
}
