package span_test

import (
	"math/rand"
	"slices"
	"testing"

	"rhizome/api"
	"rhizome/span"
)

// asEdges are tuples, taken for edges.
func asEdges(label string, pairs []api.Tuple) []api.Edge {
	var out []api.Edge
	for _, p := range pairs {
		out = append(out, api.Edge{From: p[0], Label: label, To: p[1]})
	}
	return out
}

// within tells whether each tuple of a set is in another one.
func within(pairs, more []api.Tuple) bool {
	for _, p := range pairs {
		if !slices.ContainsFunc(more, func(q api.Tuple) bool { return slices.Equal(p, q) }) {
			return false
		}
	}
	return true
}

// goOn puts edges to a list, one by one: no tuple goes, and once the span is too great it stays so.
func goOn(t *testing.T, all []api.Edge) {
	t.Helper()
	var pairs []api.Tuple
	full := false
	for n := range len(all) + 1 {
		more, e := span.Pairs("a", all[:n])
		switch {
		case e == api.ErrFull:
			full = true
		case e != api.OK || full || !within(pairs, more):
			t.Fatalf("Pairs of %s: %s, %d, behind %s (full: %v)", brief(all[:n]), brief(more), e, brief(pairs), full)
		case n > 0 && all[n-1].Label == "a" && !within([]api.Tuple{{all[n-1].From, all[n-1].To}}, more):
			t.Fatalf("Pairs of %s: %s: without its last edge", brief(all[:n]), brief(more))
		case n > 0 && all[n-1].Label != "a" && !equal(pairs, more):
			t.Fatalf("Pairs of %s: %s, behind %s, with an edge of another label", brief(all[:n]), brief(more), brief(pairs))
		}
		pairs = more
	}
}

func TestP13_2OneEdgeMore(t *testing.T) {
	r := rand.New(rand.NewSource(1307))
	for range 1000 {
		goOn(t, drawn(r, 25, 12))
	}
}

// TestP13_2OneEdgeMoreAnywhere puts each edge between two nodes, and to one that is new, behind edges that are drawn.
func TestP13_2OneEdgeMoreAnywhere(t *testing.T) {
	r := rand.New(rand.NewSource(1308))
	for range 300 {
		g := drawn(r, 12, 8)
		pairs, e := span.Pairs("a", g)
		if e != api.OK {
			t.Fatal(e)
		}
		for from := range 10 {
			for to := range 10 {
				more := slices.Insert(slices.Clone(g), r.Intn(len(g)+1), api.Edge{From: from, Label: "a", To: to})
				if got, e := span.Pairs("a", more); e != api.OK || !within(pairs, got) || !within([]api.Tuple{{from, to}}, got) {
					t.Fatalf("Pairs of %v: %v, %d, of %v: %v", g, pairs, e, more, got)
				}
			}
		}
	}
}

// TestP13_2TillItIsTooGreat draws edges till there are too many tuples, and goes on.
func TestP13_2TillItIsTooGreat(t *testing.T) {
	r := rand.New(rand.NewSource(1309))
	for range 5 {
		var g []api.Edge
		for range 250 {
			g = append(g, api.Edge{From: 1 + r.Intn(90), Label: "a", To: 1 + r.Intn(90)})
		}
		if _, e := span.Pairs("a", g); e != api.ErrFull {
			t.Fatal("not too great", e)
		}
		goOn(t, g)
	}
}

// spansItself holds a span, taken for edges, to span the same, in any order, and with the edges that it is of.
func spansItself(t *testing.T, r *rand.Rand, g []api.Edge) {
	t.Helper()
	pairs, e := span.Pairs("a", g)
	if e != api.OK {
		t.Fatal(e)
	}
	taken := asEdges("a", pairs)
	spans(t, "a", taken, pairs)
	spans(t, "a", mixed(r, append(taken, g...)), pairs)
	other := asEdges("other", pairs)
	spans(t, "other", mixed(r, other), pairs)
	spans(t, "a", other, nil)
	found, e := span.Rings("a", g)
	if e != api.OK {
		t.Fatal(e)
	}
	rings(t, "a", mixed(r, taken), found)
	for _, p := range pairs[:min(len(pairs), 100)] {
		leads(t, "a", taken, p[0], p[1], p)
	}
}

func TestP13_2TuplesTakenForEdges(t *testing.T) {
	r := rand.New(rand.NewSource(1310))
	for range 1000 {
		spansItself(t, r, drawn(r, 20, 12))
	}
	for _, g := range [][]api.Edge{nil, graph("1 a 1"), row("a", 40, 1, 1), ring("a", 40, 1, 1), hub("a", 30, 30), clique("a", 20)} {
		spansItself(t, r, g)
	}
	spansItself(t, r, append(ring("a", 63, 1, 1), apart("a", 31, 101)...)) // MaxTuples
}

func TestP13_2AllOfThreeNodes(t *testing.T) {
	r := rand.New(rand.NewSource(1311))
	for bits := range 1 << 9 {
		spansItself(t, r, between(3, bits))
		pairs := toldPairs("a", between(3, bits))
		for i := range 9 {
			more, e := span.Pairs("a", between(3, bits|1<<i))
			if e != api.OK || !within(pairs, more) {
				t.Fatalf("Pairs of %v: %v, %d, ahead %v", between(3, bits|1<<i), more, e, pairs)
			}
		}
	}
}
