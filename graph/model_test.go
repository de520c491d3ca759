package graph_test

import (
	"cmp"
	"maps"
	"math"
	"slices"
	"strings"
	"testing"

	"rhizome/api"
	"rhizome/graph"
	"rhizome/val"
)

// told is a graph as the chapter's words have it.
type told struct {
	nodes map[int]bool
	edges []api.Edge // in order
	props map[int]map[string]api.Value
}

func newTold() *told {
	return &told{nodes: map[int]bool{}, props: map[int]map[string]api.Value{}}
}

func order(a, b api.Edge) int {
	return cmp.Or(cmp.Compare(a.From, b.From), strings.Compare(a.Label, b.Label), cmp.Compare(a.To, b.To))
}

func named(s string) bool {
	return s != "" && len(s) <= 16 && strings.Trim(s, "abcdefghijklmnopqrstuvwxyz") == ""
}

// plain is a value without what its kind doesn't use.
func plain(v api.Value) api.Value {
	if v.Kind == api.VText {
		v.Int = 0
	} else {
		v.Text = ""
	}
	return v
}

func (m *told) clone() *told {
	c := newTold()
	maps.Copy(c.nodes, m.nodes)
	c.edges = slices.Clone(m.edges)
	for n, l := range m.props {
		c.props[n] = maps.Clone(l)
	}
	return c
}

func (m *told) hasEdge(e api.Edge) bool { return slices.Contains(m.edges, e) }

func (m *told) prop(n int, key string) (api.Value, bool) {
	v, there := m.props[n][key]
	return v, there
}

func (m *told) inUse(n int) bool {
	return len(m.props[n]) > 0 || slices.ContainsFunc(m.edges, func(e api.Edge) bool { return e.From == n || e.To == n })
}

// refusal is the table's column, by the order of its words.
func (m *told) refusal(c api.Change) api.Errno {
	type why struct {
		holds bool
		e     api.Errno
	}
	var whys []why
	old, hasProp := m.prop(c.Node, c.Key)
	switch c.Kind {
	case api.CNode:
		whys = []why{{c.Node < 1 || c.Node > 1000, api.ErrRange}, {m.nodes[c.Node], api.ErrTwice}}
	case api.CNoNode:
		whys = []why{{!m.nodes[c.Node], api.ErrNone}, {m.inUse(c.Node), api.ErrUse}}
	case api.CEdge:
		whys = []why{
			{!named(c.Edge.Label), api.ErrRange}, {!m.nodes[c.Edge.From] || !m.nodes[c.Edge.To], api.ErrNone},
			{m.hasEdge(c.Edge), api.ErrTwice}, {len(m.edges) >= 2000, api.ErrFull},
		}
	case api.CNoEdge:
		whys = []why{{!m.hasEdge(c.Edge), api.ErrNone}}
	case api.CProp:
		bad := val.Check(c.Value)
		whys = []why{
			{!named(c.Key), api.ErrRange}, {bad != api.OK, bad},
			{!m.nodes[c.Node], api.ErrNone}, {hasProp && old == plain(c.Value), api.ErrTwice},
		}
	case api.CNoProp:
		whys = []why{{!hasProp, api.ErrNone}}
	default:
		return api.ErrRange
	}
	for _, w := range whys {
		if w.holds {
			return w.e
		}
	}
	return api.OK
}

// back is what leads back behind a change that isn't refused.
func (m *told) back(c api.Change) api.Change {
	switch c.Kind {
	case api.CNode:
		return noNode(c.Node)
	case api.CNoNode:
		return node(c.Node)
	case api.CEdge:
		return noEdge(c.Edge.From, c.Edge.Label, c.Edge.To)
	case api.CNoEdge:
		return edge(c.Edge.From, c.Edge.Label, c.Edge.To)
	}
	if old, there := m.prop(c.Node, c.Key); there {
		return prop(c.Node, c.Key, old)
	}
	return noProp(c.Node, c.Key)
}

func (m *told) do(c api.Change) {
	switch c.Kind {
	case api.CNode:
		m.nodes[c.Node] = true
	case api.CNoNode:
		delete(m.nodes, c.Node)
	case api.CEdge:
		i, _ := slices.BinarySearchFunc(m.edges, c.Edge, order)
		m.edges = slices.Insert(m.edges, i, c.Edge)
	case api.CNoEdge:
		i := slices.Index(m.edges, c.Edge)
		m.edges = slices.Delete(m.edges, i, i+1)
	case api.CProp:
		if m.props[c.Node] == nil {
			m.props[c.Node] = map[string]api.Value{}
		}
		m.props[c.Node][c.Key] = plain(c.Value)
	case api.CNoProp:
		delete(m.props[c.Node], c.Key)
	}
}

func (m *told) nodeList() []int { return slices.Sorted(maps.Keys(m.nodes)) }

func (m *told) propList(n int) []string { return slices.Sorted(maps.Keys(m.props[n])) }

// those is the edges of a label, or all, if it is empty, that may be.
func (m *told) those(label string, may func(e api.Edge) bool) []api.Edge {
	var l []api.Edge
	for _, e := range m.edges {
		if (label == "" || e.Label == label) && may(e) {
			l = append(l, e)
		}
	}
	return l
}

func (m *told) changes() []api.Change {
	var l []api.Change
	for _, n := range m.nodeList() {
		l = append(l, node(n))
	}
	for _, e := range m.edges {
		l = append(l, edge(e.From, e.Label, e.To))
	}
	for _, n := range m.nodeList() {
		for _, k := range m.propList(n) {
			l = append(l, prop(n, k, m.props[n][k]))
		}
	}
	return l
}

// The changes.
func node(n int) api.Change   { return api.Change{Kind: api.CNode, Node: n} }
func noNode(n int) api.Change { return api.Change{Kind: api.CNoNode, Node: n} }

func edge(from int, label string, to int) api.Change {
	return api.Change{Kind: api.CEdge, Edge: api.Edge{From: from, Label: label, To: to}}
}

func noEdge(from int, label string, to int) api.Change {
	return api.Change{Kind: api.CNoEdge, Edge: api.Edge{From: from, Label: label, To: to}}
}

func prop(n int, key string, v api.Value) api.Change {
	return api.Change{Kind: api.CProp, Node: n, Key: key, Value: v}
}

func noProp(n int, key string) api.Change {
	return api.Change{Kind: api.CNoProp, Node: n, Key: key}
}

// The values.
func num(n int) api.Value     { return api.Value{Kind: api.VInt, Int: n} }
func boolean(n int) api.Value { return api.Value{Kind: api.VBool, Int: n} }
func text(s string) api.Value { return api.Value{Kind: api.VText, Text: s} }

// notNodes is numbers of no node.
var notNodes = []int{0, 1001, -1, -1000, 1256, 1 << 16, 1<<32 + 1, math.MinInt, math.MinInt + 1, math.MaxInt}

// noNames is texts that are no names: too short, too long, with a byte that is no letter at each place.
func noNames() []string {
	l := []string{"", strings.Repeat("a", 17), strings.Repeat("z", 18), strings.Repeat("a", 150), strings.Repeat("a", 200), strings.Repeat("a", 1<<16)}
	for _, s := range []string{"`", "{", "A", "Z", "0", "_", " ", "\n", "\x00", "\x01", "\x7f", "\x80", "\xe1", "\xff", "é", "\u0430", "\x00\x01", "\x00\xff", "\x00\x01\x01\x80\x00\x00\x00\x00\x00\x00\x01"} {
		l = append(l, s, s+"a", "a"+s, "a"+s+"a", "abcdefghijklmno"+s)
	}
	return l
}

// both is a graph, and what it has to be.
type both struct {
	*testing.T
	g *graph.Graph
	m *told
}

// of is a graph behind some changes, of which none is refused.
func of(t *testing.T, changes ...api.Change) *both {
	t.Helper()
	g := graph.New()
	if g == nil {
		t.Fatal("New: nil")
	}
	b := &both{t, g, newTold()}
	b.done(changes...)
	return b
}

func (b *both) clone() *both { return &both{b.T, b.g.Clone(), b.m.clone()} }

// do does a change, and checks its answer, and that of Undo ahead of it.
func (b *both) do(c api.Change) api.Errno {
	b.Helper()
	want, wantBack := b.m.refusal(c), api.Change{}
	if want == api.OK {
		wantBack = b.m.back(c)
	}
	if back, e := b.g.Undo(c); e != want || back != wantBack {
		b.Fatalf("Undo(%.200q): %.200q, %d; want %.200q, %d", tell(c), tell(back), e, tell(wantBack), want)
	}
	if e := b.g.Do(c); e != want {
		b.Fatalf("Do(%.200q): %d; want %d", tell(c), e, want)
	}
	if want == api.OK {
		b.m.do(c)
	}
	return want
}

// done does changes, of which none is refused.
func (b *both) done(changes ...api.Change) {
	b.Helper()
	for _, c := range changes {
		b.refused(c, api.OK)
	}
}

// refused does a change that has this error.
func (b *both) refused(c api.Change, want api.Errno) {
	b.Helper()
	if e := b.do(c); e != want {
		b.Fatalf("Do(%.200q): %d; want %d", tell(c), e, want)
	}
}

func same[E comparable](b *both, what string, got, want []E) {
	b.Helper()
	if !slices.Equal(got, want) {
		b.Fatalf("%s: %.400q; want %.400q", what, tell(got), tell(want))
	}
}

// What is() asks of, besides what there is.
var askedNodes = append(slices.Clone(notNodes), 1, 2, 3, 255, 256, 257, 999, 1000)
var askedNames = []string{"a", "b", "aa", "ab", "z", "abcdefghijklmnop", "k", "abcdefghijklmnopq", "A", "a\x00", "\x00", "\x00\x01", "é"}

// is checks what all calls tell of the graph.
func (b *both) is() {
	b.Helper()
	nodes, names := b.asked()
	same(b, "Nodes", b.g.Nodes(), b.m.nodeList())
	same(b, "Changes", b.g.Changes(), b.m.changes())
	for _, l := range append(names, "") {
		same(b, "Edges of "+l, b.g.Edges(l), b.m.those(l, func(api.Edge) bool { return true }))
	}
	for _, n := range nodes {
		if b.g.Node(n) != b.m.nodes[n] {
			b.Fatalf("Node(%d): %t", n, !b.m.nodes[n])
		}
		for _, l := range append(names, "") {
			same(b, "Out of "+l, b.g.Out(n, l), b.m.those(l, func(e api.Edge) bool { return e.From == n }))
			same(b, "In of "+l, b.g.In(n, l), b.m.those(l, func(e api.Edge) bool { return e.To == n }))
			want, there := b.m.prop(n, l)
			if v, ok := b.g.Prop(n, l); ok != there || v != want {
				b.Fatalf("Prop(%d, %q): %v, %t; want %v, %t", n, l, v, ok, want, there)
			}
			for _, to := range nodes {
				e := api.Edge{From: n, Label: l, To: to}
				if b.g.Edge(e) != b.m.hasEdge(e) {
					b.Fatalf("Edge(%v): %t", e, !b.m.hasEdge(e))
				}
			}
		}
		same(b, "Props", b.g.Props(n), b.m.propList(n))
	}
}

func (b *both) asked() ([]int, []string) {
	nodes, names := append(b.m.nodeList(), askedNodes...), slices.Clone(askedNames)
	for _, e := range b.m.edges {
		names = append(names, e.Label)
	}
	for _, l := range b.m.props {
		names = append(names, slices.Collect(maps.Keys(l))...)
	}
	slices.Sort(nodes)
	slices.Sort(names)
	return slices.Compact(nodes), slices.Compact(names)
}

// tells checks the lists of all that there is; for great graphs.
func (b *both) tells() {
	b.Helper()
	same(b, "Nodes", b.g.Nodes(), b.m.nodeList())
	same(b, "Edges", b.g.Edges(""), b.m.edges)
	same(b, "Changes", b.g.Changes(), b.m.changes())
}
