package record

import (
	"rhizome/api"
	"rhizome/key"
	"rhizome/names"
	"rhizome/val"
)

func isNode(n int) bool { return n >= 1 && n <= api.MaxNode }

func isInForm(c api.Change) bool {
	switch c.Kind {
	case api.CNode, api.CNoNode:
		return isNode(c.Node)
	case api.CEdge, api.CNoEdge:
		return isNode(c.Edge.From) && names.Is(c.Edge.Label) && isNode(c.Edge.To)
	case api.CProp:
		return isNode(c.Node) && names.Is(c.Key) && val.Check(c.Value) == api.OK
	case api.CNoProp:
		return isNode(c.Node) && names.Is(c.Key)
	}
	return false
}

// keyOf is what a change uses, but for its value, as a key's parts; none of a Kind that is none.
func keyOf(c api.Change) []key.Part {
	kind := key.Num(c.Kind)
	switch c.Kind {
	case api.CNode, api.CNoNode:
		return []key.Part{kind, key.Num(c.Node)}
	case api.CEdge, api.CNoEdge:
		return []key.Part{kind, key.Num(c.Edge.From), key.Str(c.Edge.Label), key.Num(c.Edge.To)}
	case api.CProp, api.CNoProp:
		return []key.Part{kind, key.Num(c.Node), key.Str(c.Key)}
	}
	return nil
}

// ofKey is the change, but for its value, of a key that has as many parts as its Kind wants; false, if it has more or
// fewer. A number where a text belongs, or a text for a number, leaves what is zero there, which isn't in form.
func ofKey(k []key.Part) (api.Change, bool) {
	if len(k) == 0 {
		return api.Change{}, false
	}
	c := api.Change{Kind: k[0].N}
	if len(k) != len(keyOf(c)) {
		return api.Change{}, false
	}
	switch c.Kind {
	case api.CNode, api.CNoNode:
		c.Node = k[1].N
	case api.CEdge, api.CNoEdge:
		c.Edge = api.Edge{From: k[1].N, Label: k[2].S, To: k[3].N}
	case api.CProp, api.CNoProp:
		c.Node, c.Key = k[1].N, k[2].S
	}
	return c, true
}

// appendChange puts the bytes of a change in form behind b. They are few: neither key nor value is refused.
func appendChange(b []byte, c api.Change) []byte {
	k, _ := key.Encode(keyOf(c))
	b = append(b, byte(len(k)))
	b = append(b, k...)
	if c.Kind == api.CProp {
		v, _ := val.Encode(c.Value)
		b = append(b, v...)
	}
	return b
}

// readChange reads the change that b begins with, and tells how many bytes it has; 0, if there is none.
func readChange(b []byte) (api.Change, int) {
	if len(b) == 0 {
		return api.Change{}, 0
	}
	end := 1 + int(b[0])
	if end > len(b) {
		return api.Change{}, 0
	}
	k, e := key.Decode(b[1:end])
	if e != api.OK {
		return api.Change{}, 0
	}
	c, ok := ofKey(k)
	if !ok {
		return api.Change{}, 0
	}
	if c.Kind == api.CProp {
		v, n, e := val.Decode(b[end:])
		if e != api.OK {
			return api.Change{}, 0
		}
		c.Value = v
		end += n
	}
	if !isInForm(c) {
		return api.Change{}, 0
	}
	return c, end
}
