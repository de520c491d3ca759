package span_test

import (
	"fmt"
	"math/rand"
	"slices"
	"testing"

	"rhizome/api"
	"rhizome/span"
)

// counted holds Pairs to so many tuples, or to be refused, if these are too many.
func counted(t *testing.T, label string, edges []api.Edge, n int) {
	t.Helper()
	got, e := span.Pairs(label, edges)
	switch {
	case n > api.MaxTuples && (e != api.ErrFull || got != nil):
		t.Fatalf("Pairs(%s) of %s: %d, %d, want ErrFull of %d", label, brief(edges), len(got), e, n)
	case n <= api.MaxTuples && (e != api.OK || len(got) != n):
		t.Fatalf("Pairs(%s) of %s: %d, %d, want %d", label, brief(edges), len(got), e, n)
	}
}

// fan is n edges of a label from one node to others, from first on.
func fan(label string, from, n, first int) []api.Edge {
	var out []api.Edge
	for i := range n {
		out = append(out, api.Edge{From: from, Label: label, To: first + i})
	}
	return out
}

// apart is n edges of a label that don't meet, from first on.
func apart(label string, n, first int) []api.Edge {
	var out []api.Edge
	for i := range n {
		out = append(out, api.Edge{From: first + 2*i, Label: label, To: first + 2*i + 1})
	}
	return out
}

// hub is edges of a label from so many nodes to one, and from there to so many others.
func hub(label string, in, out int) []api.Edge {
	l := fan(label, 500, out, 501)
	for i := range in {
		l = append(l, api.Edge{From: 499 - i, Label: label, To: 500})
	}
	return l
}

// clique is all edges of a label between n nodes, those of one to itself, too.
func clique(label string, n int) []api.Edge {
	var out []api.Edge
	for i := range n * n {
		out = append(out, api.Edge{From: 1 + i/n, Label: label, To: 1 + i%n})
	}
	return out
}

// TestP13_1MaxTuples has spans of as many tuples as there may be, and of one more, of each shape.
func TestP13_1MaxTuples(t *testing.T) {
	counted(t, "a", row("a", 89, 1, 1), 3916)
	counted(t, "a", row("a", 90, 1, 1), 4005)
	counted(t, "a", ring("a", 63, 1, 1), 3969)
	counted(t, "a", ring("a", 64, 1, 1), 4096)
	counted(t, "a", clique("a", 63), 3969)
	counted(t, "a", clique("a", 64), 4096)
	counted(t, "a", hub("a", 62, 62), 3968)
	counted(t, "a", hub("a", 63, 63), 4095)
	for _, c := range []struct {
		edges []api.Edge
		n     int
	}{{row("a", 89, 1, 1), 3916}, {ring("a", 63, 1, 1), 3969}, {ring("a", 63, 600, -1), 3969}, {clique("a", 63), 3969}, {hub("a", 62, 62), 3968}, {fan("a", 1, 3990, 2), 3990}, {nil, 0}} {
		for _, n := range []int{api.MaxTuples - 1, api.MaxTuples, api.MaxTuples + 1, api.MaxTuples + 2} {
			g := append(slices.Clone(c.edges), apart("a", n-c.n, 5001)...)
			counted(t, "a", g, n)
			slices.Reverse(g)
			counted(t, "a", g, n)
			counted(t, "a", append(apart("a", n-c.n, -9001), c.edges...), n)
			counted(t, "a", slices.Concat(g, g), n)
			counted(t, "a", slices.Concat(g, ring("b", 100, 1, 1), apart("aa", 9000, 1)), n)
		}
	}
}

// TestP13_1AllOfMaxTuples holds them one by one.
func TestP13_1AllOfMaxTuples(t *testing.T) {
	var want []api.Tuple
	g := append(fan("a", 900, 31, 901), ring("a", 63, 63, -1)...)
	for a := range 63 {
		for b := range 63 {
			want = append(want, api.Tuple{1 + a, 1 + b})
		}
	}
	for i := range 31 {
		want = append(want, api.Tuple{900, 901 + i})
	}
	spans(t, "a", g, want)
	spans(t, "a", append(g, g...), want)
	counted(t, "a", append(g, graph("899 a 1001")...), api.MaxTuples+1)
	counted(t, "a", append(g, graph("900 a 900")...), api.MaxTuples+1)
	counted(t, "a", append(g, graph("899 b 1001")...), api.MaxTuples)
	counted(t, "a", append(g, graph("1 a 1, 63 a 5, 7 a 9")...), api.MaxTuples)
	counted(t, "a", append(g, graph("63 a 900")...), 3969+63*32+31)
	counted(t, "a", append(g, graph("901 a 902")...), api.MaxTuples+1)
}

// TestP13_1AnEdgeMakesItTooGreat has one edge more close a row to a ring, or join two rows.
func TestP13_1AnEdgeMakesItTooGreat(t *testing.T) {
	counted(t, "a", ring("a", 64, 1, 1)[:63], 64*63/2)
	counted(t, "a", ring("a", 64, 1, 1), 64*64)
	two := append(row("a", 60, 1, 1), row("a", 60, 101, 1)...)
	counted(t, "a", two, 60*59)
	counted(t, "a", append(two, graph("60 a 101")...), 120*119/2)
	counted(t, "a", append(two, graph("1 a 160")...), 60*59+1)
}

// TestP13_1ErrFullOfPairsAlone asks the other calls of edges whose span is too great.
func TestP13_1ErrFullOfPairsAlone(t *testing.T) {
	r := rand.New(rand.NewSource(1304))
	for _, n := range []int{64, 90, 1000} {
		g := mixed(r, ring("a", n, 1, 1))
		counted(t, "a", g, n*n)
		rings(t, "a", g, [][]int{rising(n, 1)})
		leads(t, "a", g, 1, n, rising(n, 1))
		leads(t, "a", g, 1, 1, append(rising(n, 1), 1))
		leads(t, "a", g, n, n-1, append([]int{n}, rising(n-1, 1)...))
		leads(t, "a", g, n+1, 1, nil)
	}
	g := mixed(r, row("a", 1000, 1, 1))
	counted(t, "a", g, 1000*999/2)
	rings(t, "a", g, nil)
	leads(t, "a", g, 1, 1000, rising(1000, 1))
	leads(t, "a", g, 1000, 1, nil)
}

// TestP13_1ManyRings tells more of them than there are tuples in a span.
func TestP13_1ManyRings(t *testing.T) {
	var g []api.Edge
	var want [][]int
	for i := range 3 * api.MaxTuples {
		g = append(g, api.Edge{From: 2 * i, Label: "a", To: 2*i + 1}, api.Edge{From: 2*i + 1, Label: "a", To: 2 * i})
		want = append(want, []int{2 * i, 2*i + 1})
	}
	rings(t, "a", mixed(rand.New(rand.NewSource(1305)), g), want)
	counted(t, "a", g, 4*3*api.MaxTuples)
}

// TestP13_1LongLists ends soon, though there are many edges, however deep they lead.
func TestP13_1LongLists(t *testing.T) {
	const n = 400000
	up, down := row("a", n, 1, 1), row("a", n, n, -1)
	for _, g := range [][]api.Edge{up, down, ring("a", n, 1, 1), slices.Concat(up, down), fan("a", 1, n, 2), apart("a", n, 1), hub("a", n, n)} {
		counted(t, "a", g, n)
	}
	rings(t, "a", up, nil)
	rings(t, "a", down, nil)
	rings(t, "a", append(up, down...), [][]int{rising(n, 1)})
	rings(t, "a", ring("a", n, n, -1), [][]int{rising(n, 1)})
	leads(t, "a", up, 1, n, rising(n, 1))
	leads(t, "a", up, n, 1, nil)
	leads(t, "a", ring("a", n, 1, 1), 1, 1, append(rising(n, 1), 1))
	leads(t, "a", fan("a", 1, n, 2), 1, n, []int{1, n})
	var twice []api.Edge
	for range n / 50 {
		twice = append(twice, ring("a", 50, 1, 1)...)
	}
	counted(t, "a", twice, 2500)
	rings(t, "a", twice, [][]int{rising(50, 1)})
}

// TestP13_1ManySourcesOfFew has many nodes, and a span that is just not too great, or is so only of its last ones.
func TestP13_1ManySourcesOfFew(t *testing.T) {
	g := slices.Concat(apart("a", api.MaxTuples, 1), row("b", 300000, 1, 1))
	counted(t, "a", g, api.MaxTuples)
	counted(t, "a", append(g, graph("100000 a 100001")...), api.MaxTuples+1)
	counted(t, "a", append(fan("a", 1, api.MaxTuples, 2), graph("9000 a 9001")...), api.MaxTuples+1)
	counted(t, "a", append(fan("a", 10000, api.MaxTuples, 2), graph("1 a 9001")...), api.MaxTuples+1)
}

// TestP13_1ManyWays has two to the 300th ways that are shortest.
func TestP13_1ManyWays(t *testing.T) {
	var g []api.Edge
	want := []int{0}
	for i := 0; i < 900; i += 3 {
		g = append(g, graph(fmt.Sprintf("%d a %d, %d a %d, %d a %d, %d a %d", i, i+2, i, i+1, i+2, i+3, i+1, i+3))...)
		want = append(want, i+1, i+3)
	}
	leads(t, "a", g, 0, 900, want)
	leads(t, "a", mixed(rand.New(rand.NewSource(1306)), g), 0, 900, want)
	leads(t, "a", append(g, graph("900 a 0")...), 0, 0, append(want, 0))
}
