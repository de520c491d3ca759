package graph_test

import (
	"fmt"
	"math/rand"
	"slices"
	"strings"
	"testing"
	"unsafe"

	"rhizome/api"
	"rhizome/graph"
)

func tell(a any) string { return fmt.Sprintf("%+v", a) }

// small is changes that make a graph with one of each: edges from, to, from and to, alike but for their
// label; properties of each kind; a node with nothing, and one with a property only.
func small() []api.Change {
	return []api.Change{
		node(2), node(1), node(1000), node(3), node(256), node(7),
		edge(1, "a", 2), edge(1, "ab", 2), edge(1, "a", 1), edge(2, "a", 1), edge(1000, "abcdefghijklmnop", 256), edge(1, "b", 1000), edge(256, "z", 1),
		prop(1, "k", num(-5)), prop(1, "a", text("a\x00é")), prop(1, "ab", boolean(1)), prop(7, "k", boolean(0)), prop(1000, "abcdefghijklmnop", num(5)),
	}
}

// full is a graph with as many edges as there may be: of each of 40 nodes 50.
func full(t *testing.T) *both {
	t.Helper()
	b := of(t)
	for n := 1; n <= 50; n++ {
		b.done(node(n))
	}
	for from := 1; from <= 40; from++ {
		for to := 1; to <= 50; to++ {
			b.done(edge(from, "a", to))
		}
	}
	return b
}

// each is changes of each kind, of each thing in reach: done, or refused for one cause or for several.
func each() []api.Change {
	var l []api.Change
	nodes := []int{1, 2, 3, 7, 256, 1000, 4, 0, 1001, -1}
	names := []string{"a", "ab", "b", "k", "abcdefghijklmnop", "", "A", "abcdefghijklmnopq", "a\x00"}
	values := []api.Value{num(-5), num(5), num(0), boolean(0), boolean(1), text("a\x00é"), text(""), {}, boolean(2), text("\xff"), text(strings.Repeat("a", 65))}
	for _, n := range nodes {
		l = append(l, node(n), noNode(n))
		for _, s := range names {
			l = append(l, noProp(n, s))
			for _, v := range values {
				l = append(l, prop(n, s, v))
			}
			for _, to := range nodes {
				l = append(l, edge(n, s, to), noEdge(n, s, to))
			}
		}
	}
	for _, kind := range []int{0, 7, -1} {
		c := edge(1, "a", 3)
		c.Kind, c.Node, c.Key, c.Value = kind, 4, "k", num(1)
		l = append(l, c)
	}
	return l
}

func TestP7_1Example(t *testing.T) {
	g := graph.New()
	for _, c := range []api.Change{node(1), node(2), edge(1, "a", 2)} {
		if e := g.Do(c); e != api.OK {
			t.Fatalf("Do(%v): %d", c, e)
		}
	}
	if e := g.Do(noNode(1)); e != api.ErrUse {
		t.Errorf("CNoNode 1: %d", e)
	}
	if e := g.Do(edge(1, "a", 2)); e != api.ErrTwice {
		t.Errorf("CEdge 1 a 2: %d", e)
	}
	if l := g.Out(1, ""); len(l) != 1 || l[0] != (api.Edge{From: 1, Label: "a", To: 2}) {
		t.Errorf("Out(1): %v", l)
	}
}

func TestP7_1Empty(t *testing.T) {
	b := of(t)
	b.is()
	b.clone().is()
	for _, c := range each() {
		one := b.clone()
		one.do(c)
		one.tells()
	}
	b.refused(noNode(1), api.ErrNone)
	b.refused(edge(1, "a", 1), api.ErrNone)
	b.refused(noEdge(1, "a", 1), api.ErrNone)
	b.refused(prop(1, "a", num(1)), api.ErrNone)
	b.refused(noProp(1, "a"), api.ErrNone)
	b.is()
}

func TestP7_1Nodes(t *testing.T) {
	b := of(t, node(1), node(1000))
	b.is()
	for _, n := range notNodes {
		b.refused(node(n), api.ErrRange)
		b.refused(noNode(n), api.ErrNone)
		b.refused(edge(n, "a", 1), api.ErrNone)
		b.refused(edge(1, "a", n), api.ErrNone)
		b.refused(noEdge(n, "a", 1), api.ErrNone)
		b.refused(noEdge(1, "a", n), api.ErrNone)
		b.refused(prop(n, "a", num(1)), api.ErrNone)
		b.refused(noProp(n, "a"), api.ErrNone)
	}
	b.is()
	b.refused(node(1), api.ErrTwice)
	b.refused(node(1000), api.ErrTwice)
	b.done(noNode(1), noNode(1000))
	b.is()
	b.refused(noNode(1), api.ErrNone)
	b.done(node(1))
	b.is()
}

func TestP7_1AllNodes(t *testing.T) {
	b := of(t)
	for i := range 1000 {
		b.done(node(i*7%1000 + 1))
	}
	b.tells()
	for n := 1; n <= 1000; n += 3 {
		b.done(noNode(n))
	}
	b.tells()
}

func TestP7_1Names(t *testing.T) {
	b := of(t, node(1), node(2))
	for _, s := range []string{"a", "z", "abcdefghijklmnop", "qrstuvwxyzabcdef", "zzzzzzzzzzzzzzzz", "aaaaaaaaaaaaaaaa", "m"} {
		b.done(edge(1, s, 2), prop(1, s, text(s)))
	}
	b.is()
	for _, s := range noNames() {
		b.refused(edge(1, s, 2), api.ErrRange)
		b.refused(noEdge(1, s, 2), api.ErrNone)
		b.refused(prop(1, s, num(1)), api.ErrRange)
		b.refused(noProp(1, s), api.ErrNone)
	}
	b.is()
	for _, c := range b.g.Changes() {
		switch c.Kind {
		case api.CEdge:
			b.done(noEdge(1, c.Edge.Label, 2))
		case api.CProp:
			b.done(noProp(1, c.Key))
		}
	}
	b.is()
}

// Out, In and Edges, Prop and Edge are asked for what is no name, though it is much like those that are there.
func TestP7_1AskedByNoName(t *testing.T) {
	b := of(t, small()...)
	for _, s := range noNames() {
		if s == "" {
			continue
		}
		for _, n := range []int{1, 2, 256, 1000} {
			if l := append(append(b.g.Out(n, s), b.g.In(n, s)...), b.g.Edges(s)...); len(l) != 0 {
				t.Fatalf("edges of %.40q: %v", s, l)
			}
		}
	}
	for _, s := range noNames() {
		if v, ok := b.g.Prop(1, s); ok || v != (api.Value{}) {
			t.Fatalf("Prop of %.40q: %v", s, v)
		}
		for _, to := range []int{1, 2, 1000} {
			if b.g.Edge(api.Edge{From: 1, Label: s, To: to}) {
				t.Fatalf("Edge of %.40q", s)
			}
		}
	}
}

func TestP7_1MaxEdges(t *testing.T) {
	b := full(t)
	b.tells()
	b.refused(edge(41, "a", 1), api.ErrFull)
	b.refused(edge(1, "b", 1), api.ErrFull)
	b.refused(edge(1, "a", 1), api.ErrTwice)
	b.refused(edge(1, "b", 51), api.ErrNone)
	b.refused(edge(1, "B", 1), api.ErrRange)
	b.done(node(51), prop(1, "a", num(1)), noProp(1, "a"), noNode(51))
	b.tells()
	b.done(noEdge(7, "a", 7))
	b.done(edge(50, "b", 50))
	b.refused(edge(7, "a", 7), api.ErrFull)
	b.tells()
	same(b, "In", b.g.In(50, ""), b.m.those("", func(e api.Edge) bool { return e.To == 50 }))
	same(b, "Out", b.g.Out(7, "a"), b.m.those("a", func(e api.Edge) bool { return e.From == 7 }))
}

// One node has all edges.
func TestP7_1MaxEdgesOfANode(t *testing.T) {
	b := of(t)
	for n := 1; n <= 1000; n++ {
		b.done(node(n))
	}
	for n := 1000; n >= 1; n-- {
		b.done(edge(500, "b", n), edge(n, "a", 500))
	}
	b.refused(edge(1, "c", 1), api.ErrFull)
	b.tells()
	for _, l := range []string{"", "a", "b", "c"} {
		same(b, "Out", b.g.Out(500, l), b.m.those(l, func(e api.Edge) bool { return e.From == 500 }))
		same(b, "In", b.g.In(500, l), b.m.those(l, func(e api.Edge) bool { return e.To == 500 }))
	}
}

func TestP7_1EdgeToItself(t *testing.T) {
	b := of(t, node(5), edge(5, "a", 5))
	b.is()
	if len(b.g.Out(5, "")) != 1 || len(b.g.In(5, "a")) != 1 || len(b.g.Edges("")) != 1 {
		t.Errorf("%v, %v, %v", b.g.Out(5, ""), b.g.In(5, "a"), b.g.Edges(""))
	}
	b.refused(edge(5, "a", 5), api.ErrTwice)
	b.refused(noNode(5), api.ErrUse)
	b.done(noEdge(5, "a", 5))
	b.is()
	b.done(noNode(5))
}

func TestP7_1LabelsThatBeginAlike(t *testing.T) {
	b := of(t, node(1), node(2))
	labels := []string{"ab", "a", "abc", "b", "aa", "abcdefghijklmnop", "abcdefghijklmno"}
	for _, l := range labels {
		b.done(edge(1, l, 2))
		b.is()
	}
	for _, l := range labels {
		if got := b.g.Out(1, l); len(got) != 1 || got[0].Label != l {
			t.Errorf("Out of %s: %v", l, got)
		}
		if got := b.g.In(2, l); len(got) != 1 || got[0].Label != l {
			t.Errorf("In of %s: %v", l, got)
		}
	}
	for _, l := range labels {
		b.done(noEdge(1, l, 2))
		b.is()
	}
}

// The order is by From, Label, To; also in In, and when the edges come in any order.
func TestP7_1OrderOfEdges(t *testing.T) {
	nodes := []int{1, 2, 255, 256, 257, 999, 1000}
	var all []api.Change
	for _, from := range nodes {
		for _, l := range []string{"a", "aa", "ab", "b", "z"} {
			for _, to := range nodes {
				all = append(all, edge(from, l, to))
			}
		}
	}
	for seed := range int64(3) {
		b := of(t)
		for _, n := range nodes {
			b.done(node(n))
		}
		rand.New(rand.NewSource(seed)).Shuffle(len(all), func(i, k int) { all[i], all[k] = all[k], all[i] })
		b.done(all...)
		if !slices.IsSortedFunc(b.g.Edges(""), order) || !slices.IsSortedFunc(b.g.In(256, ""), order) || !slices.IsSortedFunc(b.g.Out(256, ""), order) {
			t.Fatal("not in order")
		}
		b.is()
		b.done(noEdge(256, "a", 256), noEdge(1, "ab", 256))
		b.is()
	}
}

func TestP7_1OrderOfChangesAndProps(t *testing.T) {
	b := of(t)
	for _, n := range []int{1000, 256, 1, 255, 2} {
		b.done(node(n))
		for _, k := range []string{"b", "a", "ab", "aa", "z", "abcdefghijklmnop"} {
			b.done(prop(n, k, text(k)))
		}
		b.done(edge(n, "b", 1000), edge(n, "a", 1000))
	}
	b.is()
	same(b, "Props", b.g.Props(255), []string{"a", "aa", "ab", "abcdefghijklmnop", "b", "z"})
}

// Where several things are wrong, the first of the table's words is told.
func TestP7_1WhichErrorIsTold(t *testing.T) {
	b := full(t)
	b.done(prop(1, "k", num(1)))
	long := text(strings.Repeat("\xff", 65))
	for _, one := range []struct {
		c api.Change
		e api.Errno
	}{
		{edge(60, "", 61), api.ErrRange},   // its nodes aren't there, it is full
		{edge(1, "A", 2), api.ErrRange},    // full
		{edge(60, "a", 1), api.ErrNone},    // full
		{edge(1, "a", 60), api.ErrNone},    // full
		{edge(60, "a", 60), api.ErrNone},   // full
		{edge(1, "a", 2), api.ErrTwice},    // full
		{edge(1, "b", 2), api.ErrFull},     //
		{noEdge(60, "", 0), api.ErrNone},   // all is wrong
		{noNode(60), api.ErrNone},          //
		{noNode(1), api.ErrUse},            //
		{prop(60, "", long), api.ErrRange}, // all is wrong
		{prop(60, "K", num(1)), api.ErrRange},
		{prop(1, "K", num(1)), api.ErrRange},
		{prop(60, "k", long), api.ErrLong}, // no UTF-8, no node
		{prop(60, "k", text("\xff")), api.ErrText},
		{prop(60, "k", boolean(2)), api.ErrRange},
		{prop(60, "k", api.Value{}), api.ErrRange},
		{prop(60, "k", num(1)), api.ErrNone},
		{prop(0, "k", num(1)), api.ErrNone},
		{prop(1, "k", num(1)), api.ErrTwice},
		{noProp(60, ""), api.ErrNone},
		{noProp(60, "k"), api.ErrNone},
		{noProp(1, "l"), api.ErrNone},
	} {
		b.refused(one.c, one.e)
	}
	b.tells()
}

func TestP7_1NodeInUse(t *testing.T) {
	for _, l := range [][2]api.Change{
		{edge(5, "a", 6), noEdge(5, "a", 6)},
		{edge(6, "a", 5), noEdge(6, "a", 5)},
		{edge(5, "a", 5), noEdge(5, "a", 5)},
		{prop(5, "a", num(0)), noProp(5, "a")},
	} {
		b := of(t, node(4), node(5), node(6), l[0])
		b.done(noNode(4), node(4)) // the others are in use, it isn't
		b.refused(noNode(5), api.ErrUse)
		b.is()
		b.done(l[1], noNode(5))
		b.is()
		b.refused(l[0], api.ErrNone)
		b.is()
	}
	b := of(t, node(5), node(6), edge(5, "a", 6), edge(6, "b", 5), prop(5, "a", num(1)), prop(5, "b", num(1)))
	for _, c := range []api.Change{noEdge(5, "a", 6), noProp(5, "b"), noEdge(6, "b", 5)} {
		b.refused(noNode(5), api.ErrUse)
		b.done(c)
	}
	b.refused(noNode(5), api.ErrUse)
	b.done(noProp(5, "a"), noNode(5), noNode(6))
	b.is()
}

// A node that comes again has none of what it had.
func TestP7_1NodeComesAgain(t *testing.T) {
	b := of(t, node(5), node(6), edge(5, "a", 6), prop(5, "a", num(1)), noEdge(5, "a", 6), noProp(5, "a"), noNode(5), node(5))
	b.is()
	if len(b.g.Out(5, ""))+len(b.g.Props(5)) != 0 {
		t.Error("it has what it had")
	}
}

func TestP7_1PropAnew(t *testing.T) {
	b := of(t, node(1), node(2), prop(1, "k", num(1)))
	b.refused(prop(1, "k", num(1)), api.ErrTwice)
	for _, v := range []api.Value{num(2), boolean(1), num(1), text("1"), text(""), num(0), boolean(0), text("0"), text("a"), text("ab")} {
		b.done(prop(1, "k", v))
		b.is()
		b.refused(prop(1, "k", v), api.ErrTwice)
		b.is()
	}
	b.done(prop(2, "k", text("ab")), prop(1, "l", text("ab")))
	b.done(noProp(1, "k"))
	b.is()
	b.refused(noProp(1, "k"), api.ErrNone)
	b.done(prop(1, "k", text("ab")))
	b.is()
}

func TestP7_1Values(t *testing.T) {
	good := []api.Value{
		num(0), num(1), num(-1), num(64), num(-1 << 63), num(1<<63 - 1), boolean(0), boolean(1),
		text(""), text("a"), text("\x00"), text("a\x00\xc3\xa9\U0010ffff"), text(strings.Repeat("a", 64)), text(strings.Repeat("é", 32)), text("\"\\\n"),
	}
	bad := []struct {
		v api.Value
		e api.Errno
	}{
		{api.Value{}, api.ErrRange}, {api.Value{Kind: 4, Int: 1, Text: "a"}, api.ErrRange}, {api.Value{Kind: -1}, api.ErrRange},
		{boolean(2), api.ErrRange}, {boolean(-1), api.ErrRange}, {boolean(1 << 32), api.ErrRange},
		{text(strings.Repeat("a", 65)), api.ErrLong}, {text(strings.Repeat("\xff", 65)), api.ErrLong}, {text(strings.Repeat("a", 1<<16)), api.ErrLong},
		{text("\xff"), api.ErrText}, {text("a\xc3"), api.ErrText}, {text("\xed\xa0\x80"), api.ErrText},
	}
	b := of(t, node(1))
	for _, v := range good {
		b.done(prop(1, "k", v))
		b.is()
		for _, one := range bad {
			b.refused(prop(1, "k", one.v), one.e)
			b.refused(prop(1, "l", one.v), one.e)
		}
		b.is()
	}
	b = of(t, node(1))
	for i, v := range good {
		b.done(prop(1, "k"+string(rune('a'+i)), v))
	}
	b.is()
}

func TestP7_1KindsThatAreNone(t *testing.T) {
	b := of(t, small()...)
	for _, kind := range []int{0, 7, 8, -1, -6, 257, 1 << 32, 1<<32 + 1, -1 << 63, 1<<63 - 1} {
		for _, c := range []api.Change{{}, node(4), noNode(3), edge(1, "c", 2), noEdge(1, "a", 2), prop(1, "c", num(1)), noProp(1, "k")} {
			c.Kind = kind
			b.refused(c, api.ErrRange)
		}
	}
	b.is()
}

// loaded is a change with what its kind doesn't use, too.
func loaded(c api.Change) []api.Change {
	long := strings.Repeat("x", 300)
	var l []api.Change
	for _, with := range []api.Change{
		{Node: 2, Edge: api.Edge{From: 1, Label: "a", To: 2}, Key: "k", Value: num(1)},
		{Node: -7, Edge: api.Edge{From: -1, Label: long, To: 5000}, Key: long, Value: api.Value{Kind: 9, Int: 9, Text: long}},
	} {
		with.Kind = c.Kind
		switch c.Kind {
		case api.CNode, api.CNoNode:
			with.Node = c.Node
		case api.CEdge, api.CNoEdge:
			with.Edge = c.Edge
		case api.CProp:
			with.Node, with.Key, with.Value = c.Node, c.Key, c.Value
			if c.Value.Kind == api.VText {
				with.Value.Int = 77
			} else {
				with.Value.Text = long
			}
		case api.CNoProp:
			with.Node, with.Key = c.Node, c.Key
		}
		l = append(l, with)
	}
	return l
}

// What a kind doesn't use means nothing, and is in no answer.
func TestP7_1FieldsNotUsed(t *testing.T) {
	for _, c := range each() {
		if c.Kind < api.CNode || c.Kind > api.CNoProp {
			continue
		}
		for _, one := range loaded(c) {
			b := of(t, small()...)
			b.refused(one, b.m.refusal(c))
			b.tells()
		}
	}
	b := of(t)
	for _, c := range small() {
		b.done(loaded(c)[1])
	}
	b.is()
	for _, c := range small() {
		if c.Kind == api.CProp {
			b.refused(loaded(c)[0], api.ErrTwice)
		}
	}
}

// anyChange is one that is often done, and often refused, of few things.
func anyChange(rnd *rand.Rand) api.Change {
	pick := func(l ...string) string { return l[rnd.Intn(len(l))] }
	n := func() int { return []int{1, 2, 3, 4, 256, 257, 1000, 0}[rnd.Intn(8)] }
	v := []api.Value{num(1), num(2), boolean(1), text("a"), text("ab"), boolean(2)}[rnd.Intn(6)]
	switch rnd.Intn(12) {
	case 0, 1, 2:
		return node(n())
	case 3, 4:
		return noNode(n())
	case 5, 6, 7:
		return edge(n(), pick("a", "ab", "b", "a\x00"), n())
	case 8:
		return noEdge(n(), pick("a", "ab", "b", ""), n())
	case 9, 10:
		return prop(n(), pick("a", "ab", "b", "A"), v)
	}
	return noProp(n(), pick("a", "ab", "b", ""))
}

func TestP7_1ListsOfCalls(t *testing.T) {
	told := map[api.Errno]int{}
	for seed := range int64(12) {
		rnd, b := rand.New(rand.NewSource(seed)), of(t)
		for i := range 400 {
			told[b.do(anyChange(rnd))]++
			if i%8 == 0 {
				b.is()
			}
		}
		b.is()
	}
	for _, e := range []api.Errno{api.OK, api.ErrRange, api.ErrTwice, api.ErrNone, api.ErrUse} {
		if told[e] == 0 {
			t.Errorf("no change was answered by %d", e)
		}
	}
}

func TestP7_1CloneGoesItsOwnWay(t *testing.T) {
	b := of(t, small()...)
	for _, c := range each() {
		clone := b.clone()
		clone.do(c)
		b.tells()
		clone.tells()
	}
	b.is()
	clone := b.clone()
	for _, c := range each() { // and the graph, beside its clone
		one := b.clone()
		two := one.clone()
		one.do(c)
		two.tells()
	}
	clone.is()
}

func TestP7_1ClonesOfClones(t *testing.T) {
	rnd := rand.New(rand.NewSource(1))
	all := []*both{of(t, small()...)}
	for len(all) < 12 {
		all = append(all, all[rnd.Intn(len(all))].clone())
		for range 15 {
			all[rnd.Intn(len(all))].do(anyChange(rnd))
		}
		for _, b := range all {
			b.tells()
		}
	}
	for _, b := range all {
		b.is()
	}
}

// isWhole checks by the graph's own calls that nothing is without its nodes, and that all calls tell the same.
func isWhole(t *testing.T, g *graph.Graph) {
	t.Helper()
	edges, from, to := g.Edges(""), 0, 0
	for _, e := range edges {
		if !g.Node(e.From) || !g.Node(e.To) || !g.Edge(e) || !slices.Contains(g.Out(e.From, e.Label), e) || !slices.Contains(g.In(e.To, e.Label), e) {
			t.Fatalf("the edge %v isn't whole", e)
		}
	}
	for n := range 1002 {
		from, to = from+len(g.Out(n, "")), to+len(g.In(n, ""))
		if !g.Node(n) && len(g.Out(n, ""))+len(g.In(n, ""))+len(g.Props(n)) > 0 {
			t.Fatalf("%d is no node, and has something", n)
		}
		for _, k := range g.Props(n) {
			if _, ok := g.Prop(n, k); !ok {
				t.Fatalf("the key %s of %d has no value", k, n)
			}
		}
	}
	if from != len(edges) || to != len(edges) {
		t.Fatalf("%d edges; from nodes %d, to nodes %d", len(edges), from, to)
	}
}

func TestP7_2Whole(t *testing.T) {
	for seed := range int64(4) {
		rnd, b := rand.New(rand.NewSource(100+seed)), of(t)
		for i := range 300 {
			b.do(anyChange(rnd))
			if i%5 == 0 {
				isWhole(t, b.g)
			}
		}
	}
	for _, c := range each() {
		if c.Kind == api.CNoNode || c.Kind == api.CNoEdge || c.Kind == api.CEdge && c.Edge.From == 1 {
			b := of(t, small()...)
			b.do(c)
			isWhole(t, b.g)
		}
	}
}

func TestP7_2RefusedChangesNothing(t *testing.T) {
	b := of(t, small()...)
	for i, c := range each() {
		if b.m.refusal(c) == api.OK {
			continue
		}
		b.do(c)
		b.tells()
		if i%50 == 0 {
			b.is()
		}
	}
	b.is()
	isWhole(t, b.g)
}

// Each change, and back.
func TestP7_3ThereAndBack(t *testing.T) {
	b := of(t, small()...)
	there := map[int]int{}
	for _, c := range each() {
		back, e := b.g.Undo(c)
		b.tells() // nothing is done
		if e != b.m.refusal(c) || e != api.OK && back != (api.Change{}) {
			t.Fatalf("Undo(%.200q): %v, %d", tell(c), back, e)
		}
		if e != api.OK {
			continue
		}
		there[c.Kind*10+back.Kind]++
		one := b.clone()
		one.done(c)
		if slices.Equal(one.g.Changes(), b.m.changes()) {
			t.Fatalf("Do(%.200q) does nothing", tell(c))
		}
		one.done(back)
		same(one, "Changes, there and back", one.g.Changes(), b.g.Changes())
		one.m = b.m
		one.tells()
	}
	for _, pair := range []int{12, 21, 34, 43, 55, 56, 65} {
		if there[pair] == 0 {
			t.Errorf("the kinds %d were never there and back", pair)
		}
	}
	b.is()
}

// At the edge of how many edges there may be.
func TestP7_3ThereAndBackOfAFullGraph(t *testing.T) {
	b := full(t)
	if back, e := b.g.Undo(edge(50, "a", 1)); e != api.ErrFull || back != (api.Change{}) {
		t.Errorf("Undo: %v, %d", back, e)
	}
	ahead := b.g.Changes()
	for _, c := range []api.Change{noEdge(40, "a", 50), noEdge(1, "a", 1), prop(1, "k", num(1)), node(51)} {
		back, e := b.g.Undo(c)
		if e != api.OK {
			t.Fatalf("Undo(%v): %d", c, e)
		}
		b.done(c, back)
		same(b, "Changes, there and back", b.g.Changes(), ahead)
	}
	b.done(noEdge(40, "a", 50))
	back, e := b.g.Undo(edge(50, "a", 1))
	if e != api.OK || back != noEdge(50, "a", 1) {
		t.Errorf("Undo: %v, %d", back, e)
	}
	b.done(edge(50, "a", 1), back, edge(40, "a", 50))
	same(b, "Changes, there and back", b.g.Changes(), ahead)
}

// The way back over many changes, the last one first.
func TestP7_3TheWholeWayBack(t *testing.T) {
	for seed := range int64(8) {
		rnd, b := rand.New(rand.NewSource(200+seed)), of(t)
		var backs []api.Change
		var states []*told
		for range 250 {
			c := anyChange(rnd)
			ahead := b.m.clone()
			back, e := b.g.Undo(c)
			if b.do(c) != e {
				t.Fatalf("Undo(%v): %d", c, e)
			}
			if e == api.OK {
				backs, states = append(backs, back), append(states, ahead)
			}
		}
		if len(backs) < 50 {
			t.Fatalf("%d changes only", len(backs))
		}
		for i := len(backs) - 1; i >= 0; i-- {
			b.done(backs[i])
			b.m = states[i]
			b.tells()
		}
		b.is()
		if len(b.g.Changes()) != 0 {
			t.Errorf("the way back ends at %v", b.g.Changes())
		}
	}
}

func remade(t *testing.T, changes []api.Change) *both {
	t.Helper()
	b := of(t)
	for _, c := range changes {
		b.do(c)
	}
	return b
}

func TestP7_3ChangesMakeItAnew(t *testing.T) {
	b := of(t, small()...)
	all := b.g.Changes()
	if len(all) != len(small()) {
		t.Errorf("%d changes make what %d have made", len(all), len(small()))
	}
	anew := of(t, all...)
	anew.m = b.m
	anew.is()
	for i := range all { // each of them has its weight
		less := remade(t, slices.Delete(slices.Clone(all), i, i+1))
		if slices.Equal(less.g.Changes(), all) {
			t.Errorf("without %v it is the same", all[i])
		}
	}
	for seed := range int64(6) {
		rnd, b := rand.New(rand.NewSource(300+seed)), of(t)
		for range 300 {
			b.do(anyChange(rnd))
		}
		anew := of(t, b.g.Changes()...)
		anew.m = b.m
		anew.is()
	}
	b = full(t)
	anew = of(t, b.g.Changes()...)
	same(anew, "Changes of changes", anew.g.Changes(), b.m.changes())
}

// spoil overwrites a list, and its spare room.
func spoil[E any](l []E, with E) {
	l = l[:cap(l)]
	for i := range l {
		l[i] = with
	}
}

// Each list is spoiled; then neither the graph, nor its clones, nor another answer is changed.
func TestP7_4ListsAreNewMemory(t *testing.T) {
	b := of(t, small()...)
	c := b.clone()
	wrong := api.Edge{From: 9, Label: "wrong", To: 9}
	for _, ask := range []func() []api.Edge{
		func() []api.Edge { return b.g.Edges("") },
		func() []api.Edge { return b.g.Edges("a") },
		func() []api.Edge { return b.g.Out(1, "") },
		func() []api.Edge { return b.g.Out(1, "a") },
		func() []api.Edge { return b.g.In(1, "") },
		func() []api.Edge { return b.g.In(1, "a") },
		func() []api.Edge { return b.g.Out(3, "") },
	} {
		first, second := ask(), ask()
		want := slices.Clone(second)
		spoil(first, wrong)
		same(b, "another answer", second, want)
		same(b, "a later answer", ask(), want)
	}
	nodes, more := b.g.Nodes(), b.g.Nodes()
	spoil(nodes, 9)
	same(b, "another answer", more, b.m.nodeList())
	keys, others := b.g.Props(1), b.g.Props(1)
	spoil(keys, "wrong")
	same(b, "another answer", others, b.m.propList(1))
	changes, again := b.g.Changes(), b.g.Changes()
	spoil(changes, api.Change{Kind: 9, Edge: wrong})
	same(b, "another answer", again, b.m.changes())
	b.is()
	c.is()
}

// What was answered stays as it was, whatever is done to the graph.
func TestP7_4AnswersStay(t *testing.T) {
	b := of(t, small()...)
	m := b.m.clone()
	nodes, out, in, edges, keys, changes := b.g.Nodes(), b.g.Out(1, ""), b.g.In(1, ""), b.g.Edges(""), b.g.Props(1), b.g.Changes()
	v, _ := b.g.Prop(1, "a")
	back, _ := b.g.Undo(noProp(1, "a"))
	for _, c := range slices.Backward(small()) {
		switch c.Kind {
		case api.CNode:
			b.done(noNode(c.Node), node(c.Node), noNode(c.Node))
		case api.CEdge:
			b.done(noEdge(c.Edge.From, c.Edge.Label, c.Edge.To))
		case api.CProp:
			b.done(prop(c.Node, c.Key, text("xxxxxxxxxx")), noProp(c.Node, c.Key))
		}
	}
	same(b, "Nodes of old", nodes, m.nodeList())
	same(b, "Out of old", out, m.those("", func(e api.Edge) bool { return e.From == 1 }))
	same(b, "In of old", in, m.those("", func(e api.Edge) bool { return e.To == 1 }))
	same(b, "Edges of old", edges, m.edges)
	same(b, "Props of old", keys, m.propList(1))
	same(b, "Changes of old", changes, m.changes())
	if v != text("a\x00é") || back != prop(1, "a", v) {
		t.Errorf("Prop, Undo of old: %v, %v", v, back)
	}
}

// lent is a text in memory that is overwritten behind a call.
func lent(s string) (string, []byte) {
	b := []byte(s)
	return unsafe.String(unsafe.SliceData(b), len(b)), b
}

// The texts of what is handed in are overwritten behind each call: nothing of them is kept, or answered.
func TestP7_4NothingHandedInIsKept(t *testing.T) {
	b := of(t, node(1), node(2))
	for _, c := range []api.Change{
		edge(1, "label", 2), edge(1, "labels", 1), prop(1, "first", text("of first")), prop(1, "first", text("anew")),
		prop(2, "second", text("of second")), noEdge(1, "label", 2), edge(1, "label", 2), noProp(2, "second"), prop(2, "first", num(1)),
	} {
		want, with := b.m.back(c), c
		var label, key, value []byte
		with.Edge.Label, label = lent(c.Edge.Label)
		with.Key, key = lent(c.Key)
		with.Value.Text, value = lent(c.Value.Text)
		back, e := b.g.Undo(with)
		done := b.g.Do(with)
		again, _ := b.g.Undo(back)
		if e != api.OK || done != api.OK || with != c {
			t.Fatalf("%v: %d, %d; changed to %v", c, e, done, with)
		}
		spoil(label, 'x')
		spoil(key, 'x')
		spoil(value, 'x')
		b.m.do(c)
		if back != want || again != c {
			t.Errorf("Undo(%v): %v; and back: %v", c, back, again)
		}
		b.is()
	}
	for _, ask := range []func(s string){
		func(s string) { b.g.Out(1, s) },
		func(s string) { b.g.In(2, s) },
		func(s string) { b.g.Edges(s) },
		func(s string) { b.g.Prop(1, s) },
		func(s string) { b.g.Edge(api.Edge{From: 1, Label: s, To: 2}) },
	} {
		for _, s := range []string{"label", "first"} {
			with, bytes := lent(s)
			ask(with)
			if with != s {
				t.Errorf("a call changes what it is given: %s", with)
			}
			spoil(bytes, 'x')
		}
	}
	with, bytes := lent("label")
	edges := append(append(b.g.Out(1, with), b.g.In(2, with)...), b.g.Edges(with)...)
	spoil(bytes, 'x')
	same(b, "edges, behind what was asked", edges, slices.Repeat([]api.Edge{{From: 1, Label: "label", To: 2}}, 3))
	b.is()
}
