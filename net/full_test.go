package net_test

import (
	"slices"
	"testing"

	"rhizome/api"
	"rhizome/net"
)

// tooGreat holds New to refuse a pattern.
func tooGreat(t *testing.T, s string, edges []api.Edge) {
	t.Helper()
	if n, e := net.New(pattern(s), edges); n != nil || e != api.ErrFull {
		t.Errorf("New of %s in %s: %v, %d", s, brief(edges), n, e)
	}
}

// hubs are n edges of a label to a node.
func hubs(label string, n, to int) []api.Edge {
	var out []api.Edge
	for i := range n {
		out = append(out, api.Edge{From: 200 + i, Label: label, To: to})
	}
	return out
}

// fans are n edges of a label from a node.
func fans(from int, label string, n int) []api.Edge {
	var out []api.Edge
	for i := range n {
		out = append(out, api.Edge{From: from, Label: label, To: 500 + i})
	}
	return out
}

// fullCases are patterns with 3000 rows of some of their first atoms, in the edges; each of more makes it more.
func fullCases() []struct {
	s           string
	edges, more []api.Edge
	levels      []int
} {
	type edges = []api.Edge
	return []struct {
		s           string
		edges, more []api.Edge
		levels      []int
	}{
		{"(x) = a(x, y)", grid("a", 3000), graph("1 a 1, 2 a 2, 9 a 8"), lists(3000)},
		{"(x, y) = a(x, x), b(x, y)", append(loops("a", 3000), graph("1 a 2, 2 b 1, 7 b 7")...), graph("3001 a 3001, 0 a 0"), lists(3000, 2)},
		{"(x) = a(x, y), b(y, z)", grid("a", 3000), graph("1 a 1, 2 a 2"), lists(3000, 0)},
		{"(x) = a(x, y), b(x, y)", append(grid("a", 3000), grid("b", 5)...), graph("1 a 1, 2 a 2"), lists(3000, 5)},
		{"(x, z) = a(x, y), b(y, z)", append(hubs("a", 30, 1), fans(1, "b", 100)...), graph("7 a 1, 1 b 2, 1 b 1"), lists(30, 3000)},
		{"(x, w) = a(x, y), b(z, w)", append(hubs("a", 60, 1), fans(1, "b", 50)...), graph("7 a 1, 1 b 2, 1 b 1, 1 a 1"), lists(60, 3000)},
		{"(z) = a(x, y), b(y, z), c(z, x)", append(hubs("a", 30, 1), fans(1, "b", 100)...), graph("7 a 1, 1 b 2"), lists(30, 3000, 0)},
		{"(x) = c(x, y), a(z, y), b(y, w), c(x, x)", slices.Concat(hubs("a", 30, 1), fans(1, "b", 100), graph("4 c 1, 8 c 8")), graph("7 a 1, 1 b 2, 5 c 1"), lists(2, 30, 3000, 0)},
		{"(x) = a(x, y), b(z, w), c(w, x), a(y, x)", slices.Concat(hubs("a", 60, 1), fans(1, "b", 50), graph("500 c 200, 501 c 200")), graph("7 a 1, 1 b 2"), lists(60, 3000, 2, 0)},
		{"(x) = a(x, x), a(y, y), b(x, y)", slices.Concat(loops("a", 54), graph("1 b 2, 3 b 3")), graph("99 a 99"), lists(54, 2916, 2)}, // the next one leads to 3025
	}
}

func TestP12_1MaxRows(t *testing.T) {
	for _, c := range fullCases() {
		k := made(t, pattern(c.s), c.edges)
		if got := k.net.Levels(); !slices.Equal(got, c.levels) {
			t.Errorf("Levels of %s: %v", c.s, got)
		}
		for _, e := range c.more {
			tooGreat(t, c.s, append(slices.Clone(c.edges), e))
			tooGreat(t, c.s, append([]api.Edge{e}, c.edges...))
			k.refused(t, []api.Edge{e}, true, api.ErrFull)
		}
		tooGreat(t, c.s, slices.Concat(c.edges, c.more))
		k.refused(t, c.more, true, api.ErrFull)
		k.refused(t, graph("1 other 2, 2 other 1"), true, api.OK)
		k.refused(t, c.edges[:1], false, api.OK)
		k.refused(t, c.edges[:1], true, api.OK)
		k.refused(t, c.more[:1], true, api.ErrFull)
	}
}

// TestP12_1MaxRowsAtOneDo comes to 3000 rows, and to one more, from no edges.
func TestP12_1MaxRowsAtOneDo(t *testing.T) {
	for _, c := range fullCases() {
		k := made(t, pattern(c.s), nil)
		for _, e := range c.more {
			k.refused(t, append(slices.Clone(c.edges), e), true, api.ErrFull) // at its last edge
			k.refused(t, append([]api.Edge{e}, c.edges...), true, api.ErrFull)
			k.refused(t, slices.Insert(slices.Clone(c.edges), len(c.edges)/2, e), true, api.ErrFull)
		}
		k.is(t, "", nil, make([]int, len(c.levels)))
		k.refused(t, c.edges, true, api.OK)
		k.refused(t, c.more[:1], true, api.ErrFull)
		k.refused(t, c.edges, false, api.OK)
		k.is(t, "", nil, make([]int, len(c.levels)))
		k.refused(t, c.edges, true, api.OK)
	}
}

// TestP12_1MaxRowsEdgeByEdge comes there by single edges: the first one too many is refused.
func TestP12_1MaxRowsEdgeByEdge(t *testing.T) {
	n, _ := net.New(pattern("(x, z) = a(x, y), a(y, z)"), nil)
	for i, e := range loops("a", 3001) {
		want := api.OK
		if i == 3000 {
			want = api.ErrFull
		}
		if d, got := n.Do([]api.Edge{e}, true); got != want || len(d.Add) != min(1, 3000-i) {
			t.Fatalf("%v: %v, %d", e, d, got)
		}
	}
	if n.Rows() != 3000 || !slices.Equal(n.Levels(), lists(3000, 3000)) {
		t.Errorf("%v", n.Levels())
	}
	for i, e := range loops("a", 3000) {
		if d, got := n.Do([]api.Edge{e}, false); got != api.OK || len(d.Del) != 1 || n.Rows() != 2999-i {
			t.Fatalf("%v: %v, %d", e, d, got)
		}
	}
}

// TestP12_1AFullNetGoesOn has a Do that is refused as too great, and others behind it.
func TestP12_1AFullNetGoesOn(t *testing.T) {
	k := made(t, pattern("(x, z) = a(x, y), b(y, z)"), append(hubs("a", 30, 1), fans(1, "b", 100)...))
	k.refused(t, graph("2 a 3, 3 b 4, 7 a 1, 5 a 6"), true, api.ErrFull)
	k.refused(t, graph("2 a 3, 3 b 4"), true, api.ErrFull)
	k.refused(t, graph("2 a 3"), true, api.OK) // a row of the first atom alone
	k.refused(t, graph("3 b 4"), true, api.ErrFull)
	k.refused(t, graph("200 a 1"), false, api.OK)
	k.refused(t, graph("3 b 4"), true, api.OK)
	k.refused(t, graph("7 a 1"), true, api.ErrFull) // a hundred rows, where there is room for 99
	k.refused(t, graph("3 b 4"), false, api.OK)
	k.refused(t, graph("7 a 1"), true, api.OK)
	k.refused(t, fans(1, "b", 100), false, api.OK)
	k.refused(t, fans(1, "b", 101), true, api.ErrFull)
	k.refused(t, append(fans(1, "b", 99), graph("3 b 4")...), true, api.OK)
}

// TestP12_1WhichErrorOfSeveral has lists that are wrong in more than one way: an edge that is wrong is told ahead of ErrFull.
func TestP12_1WhichErrorOfSeveral(t *testing.T) {
	edges := grid("a", 3000)
	k := made(t, pattern("(x) = a(x, y)"), append(graph("1 b 2"), edges...))
	k.refused(t, graph("1 a 1"), true, api.ErrFull)
	for _, s := range []string{"1 a 1, 1 b 2", "1 b 2, 1 a 1", "1 a 1, 2 b 2, 1 a 1", "1 a 1, 1 a 101", "1 a 1, 2 b 2, 2 b 2"} {
		k.refused(t, graph(s), true, api.ErrTwice)
	}
	k.refused(t, slices.Concat(grid("a", 3002)[3000:], edges[2999:]), true, api.ErrTwice)
	k.refused(t, graph("1 a 1, 1 b 2"), false, api.ErrNone)
	k.refused(t, append(edges, graph("1 a 1")...), false, api.ErrNone)
	k.refused(t, append(edges, edges[0]), false, api.ErrTwice)
	k.refused(t, edges, false, api.OK)
	k.refused(t, append(graph("1 a 1"), edges...), true, api.ErrFull)
	k.refused(t, append(graph("1 b 2, 1 a 1"), edges...), true, api.ErrTwice)
	k.refused(t, slices.Concat(graph("1 a 1"), edges, edges[:1]), true, api.ErrTwice)
}

// TestP12_1FarTooGreat has patterns of which all rows could never be made.
func TestP12_1FarTooGreat(t *testing.T) {
	s := "(x) = a(x, y), a(z, w), a(v, u), a(t, s), a(r, q), a(p, o), a(n, m), a(l, k)"
	tooGreat(t, s, grid("a", 2000))
	k := made(t, pattern(s), nil)
	k.refused(t, grid("a", 2000), true, api.ErrFull)
	k.refused(t, grid("a", 3), true, api.ErrFull)
	k.refused(t, grid("a", 2), true, api.OK)
	k.refused(t, grid("a", 2000)[2:], true, api.ErrFull)
	k.refused(t, grid("b", 2000), true, api.OK)
}
