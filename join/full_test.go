package join_test

import (
	"math/rand"
	"slices"
	"strings"
	"testing"

	"rhizome/api"
	"rhizome/join"
)

// greatest is how many rows of the first atoms there may be.
const greatest = 3000

// counted holds Rows and Result to have so many rows, or to be refused, if full.
func counted(t *testing.T, v api.View, edges []api.Edge, n int, full bool) {
	t.Helper()
	if full {
		refused(t, v, edges, api.ErrFull)
		return
	}
	rows, e := join.Rows(v, edges)
	if e != api.OK || len(rows) != n {
		t.Fatalf("Rows of %s: %d, %d, want %d", told(v, edges), len(rows), e, n)
	}
	result, counts, e := join.Result(v, edges)
	sum := 0
	for _, c := range counts {
		sum += c
	}
	if e != api.OK || len(result) != len(counts) || sum != n {
		t.Fatalf("Result of %s: %d, %d in %d, %d, want %d", told(v, edges), len(result), sum, len(counts), e, n)
	}
}

// fan is n edges of a label from one node.
func fan(from int, label string, n int) []api.Edge {
	var out []api.Edge
	for i := range n {
		out = append(out, api.Edge{From: from, Label: label, To: i + 1})
	}
	return out
}

// loops is n edges of a label, each from a node to itself.
func loops(label string, n int) []api.Edge {
	var out []api.Edge
	for i := range n {
		out = append(out, api.Edge{From: i + 1, Label: label, To: i + 1})
	}
	return out
}

// wide is n edges of a label from five hundred nodes to others, of which no two are alike.
func wide(label string, n int) []api.Edge {
	var out []api.Edge
	for i := range n {
		out = append(out, api.Edge{From: 1 + i%500, Label: label, To: 501 + i/500})
	}
	return out
}

func TestP11_1MaxRows(t *testing.T) {
	if join.MaxRows != greatest {
		t.Errorf("%d", join.MaxRows)
	}
	for _, n := range []int{greatest - 1, greatest, greatest + 1, greatest + 2, 2 * greatest} {
		full := n > greatest
		counted(t, pattern("(x) = a(x, y)"), grid("a", n), n, full)
		counted(t, pattern("(y, x) = a(x, y)"), grid("a", n), n, full)
		counted(t, pattern("(x) = a(x, y), a(x, y)"), grid("a", n), n, full)
		counted(t, pattern("(x) = a(x, y)"), slices.Concat(grid("a", n), grid("b", n), grid("a", n)), n, full)
		counted(t, pattern("(x) = b(x, x), a(y, z)"), append(grid("a", n), graph("7 b 7")...), n, full)
	}
}

// TestP11_1MaxRowsOfFewEdges has no more edges than a graph may have.
func TestP11_1MaxRowsOfFewEdges(t *testing.T) {
	hubs := slices.Concat(graph("900 a 901"), fan(1, "b", 100), graph("2 b 1"))
	for i := range 30 {
		hubs = append(hubs, api.Edge{From: 100 + i, Label: "a", To: 1})
	}
	v := pattern("(x, z) = a(x, y), b(y, z)")
	counted(t, v, hubs, greatest, false)
	counted(t, v, append(hubs, graph("901 b 5")...), 0, true)
	counted(t, v, append(hubs, graph("5 b 901")...), greatest, false)
	counted(t, v, append(hubs, hubs...), greatest, false)
	counted(t, v, append(hubs, graph("1 b 999")...), 0, true)
	product := pattern("(x) = a(x, y), b(z, w)")
	counted(t, product, append(grid("a", 60), grid("b", 50)...), greatest, false)
	counted(t, product, append(grid("a", 50), grid("b", 60)...), greatest, false)
	counted(t, product, append(grid("a", 61), grid("b", 50)...), 0, true)
	counted(t, product, append(grid("a", 60), grid("b", 51)...), 0, true)
	counted(t, product, append(grid("a", 1000), grid("b", 3)...), greatest, false)
	counted(t, product, append(grid("a", 1000), grid("b", 1000)...), 0, true)
	ofLoops := pattern("(x) = a(x, x), b(y, y)")
	counted(t, ofLoops, append(loops("a", 60), loops("b", 50)...), greatest, false)
	counted(t, ofLoops, append(loops("a", 1000), slices.Concat(grid("a", 900), grid("b", 90), loops("b", 3))...), greatest, false)
	counted(t, ofLoops, append(loops("a", 60), loops("b", 51)...), 0, true)
	counted(t, ofLoops, append(loops("a", 751), loops("b", 4)...), 0, true)
	ofFans := pattern("(x) = c(x, x), a(x, y), b(x, z)")
	fans := slices.Concat(loops("c", 7), fan(7, "a", 60), fan(7, "b", 50), fan(9, "a", 400))
	counted(t, ofFans, fans, greatest, false)
	counted(t, ofFans, append(fans, graph("7 b 51")...), 0, true)
	counted(t, ofFans, append(fans, graph("8 b 51, 7 b 50")...), greatest, false)
	three := pattern("(x) = a(x, y), a(z, w), a(v, u)")
	counted(t, three, grid("a", 14), 14*14*14, false)
	counted(t, three, grid("a", 15), 0, true)
}

// TestP11_1TooManyOfTheFirst has patterns that are too great of their first k atoms only, for each k; with one edge less they aren't.
func TestP11_1TooManyOfTheFirst(t *testing.T) {
	ways := []struct {
		last string
		n    int // how many rows all atoms have with the edge 1 c 101
	}{{"c(x, y)", 1}, {"c(w, v)", 1}, {"a(x, v)", 60}, {"a(w, y)", 50}, {"c(y, x)", 0}, {"c(x, x)", 0}, {"d(w, v)", 0}}
	for k := 1; k < api.MaxAtoms-1; k++ {
		for _, c := range ways {
			v := pattern("(x) = " + strings.Repeat("b(z, z), ", k-1) + "a(x, y), " + strings.Repeat("c(x, y), ", api.MaxAtoms-k-1) + c.last)
			some := append(grid("a", greatest), graph("5 b 5")...)
			more := append(slices.Clone(some), graph("999 a 999")...)
			counted(t, v, some, 0, false)
			counted(t, v, append(some, graph("1 c 101")...), c.n, false)
			counted(t, v, more, 0, true)
			counted(t, v, append(more, graph("1 c 101")...), 0, true)
			slices.Reverse(v.Atoms[:api.MaxAtoms-1]) // those of c ahead
			counted(t, v, more, 0, false)
			counted(t, v, append(more, graph("1 c 101")...), c.n, false)
		}
	}
	last := pattern("(x) = " + strings.Repeat("b(z, z), ", api.MaxAtoms-1) + "a(x, y)")
	counted(t, last, append(grid("a", greatest), graph("5 b 5")...), greatest, false)
	counted(t, last, append(grid("a", greatest+1), graph("5 b 5")...), 0, true)
}

func TestP11_1NoRowsOfTheFirst(t *testing.T) {
	for _, s := range []string{"b(x, x), a(y, z)", "b(x, x), a(x, y), a(z, w)", "b(x, y), b(y, z), a(w, v), a(u, t)", "a(x, x), a(y, z), a(w, v)"} {
		answers(t, pattern("(x) = "+s), append(grid("a", 2*greatest), graph("1 b 2")...), nil, nil, nil)
	}
}

// TestP11_1AnAtomOfManyEdges has atoms that have too many edges each, but few rows with those ahead.
func TestP11_1AnAtomOfManyEdges(t *testing.T) {
	g := append(grid("a", 2*greatest), graph("1 b 101, 2 b 3, 300 a 300, 300 a 1")...)
	answers(t, pattern("(x) = b(x, y), a(x, y)"), g, list("(1 101)"), list("(1)"), []int{1})
	answers(t, pattern("(x, z) = b(x, y), a(z, z)"), g, list("(1 101 300)(2 3 300)"), list("(1 300)(2 300)"), []int{1, 1})
	answers(t, pattern("(x) = a(x, x), a(x, y), b(y, z)"), g, list("(300 1 101)"), list("(300)"), []int{1})
	counted(t, pattern("(x) = b(x, y), a(z, y)"), g, 50, false)
	counted(t, pattern("(x) = b(x, y), a(x, z)"), g, 240, false)
}

func TestP11_1DrawnTooGreat(t *testing.T) {
	r := rand.New(rand.NewSource(1103))
	full, great := 0, 0
	for range 1000 {
		v, g := drawnPattern(r, 6, 16), slices.Concat(drawnEdges(r, 60), drawnEdges(r, 60))
		rows := check(t, v, g)
		if _, e := join.Rows(v, g); e == api.ErrFull {
			full++
		} else if len(rows) > 300 {
			great++
		}
	}
	if full < 20 || great < 20 {
		t.Errorf("%d too great, %d great", full, great)
	}
}

// TestP11_1HoldsOfTheTooGreat asks for rows of patterns that are too great: it has no limit of its own.
func TestP11_1HoldsOfTheTooGreat(t *testing.T) {
	v, g := pattern("(x) = a(x, y), a(z, w)"), grid("a", greatest)
	refused(t, v, g, api.ErrFull)
	checkHolds(t, v, g, list("(1 101 1 101)(50 160 1 102)(50 101 49 160)(1 101)(1 101 101 1)(51 101 1 101)(1 101 1 100)")...)
	if !join.Holds(v, g, api.Tuple{50, 160, 1, 102}) || join.Holds(v, g, api.Tuple{50, 161, 1, 102}) {
		t.Error("of the last edge")
	}
}

// TestP11_1LongLists ends soon, though there are many edges.
func TestP11_1LongLists(t *testing.T) {
	g := append(wide("a", 200000), graph("1 b 2, 2 b 3, 9 a 9")...)
	for range 200 {
		g = append(g, g[:1000]...)
	}
	refused(t, pattern("(x) = a(x, y)"), g, api.ErrFull)
	refused(t, pattern("(x) = b(x, y), a(z, w), a(x, y)"), g, api.ErrFull)
	refused(t, pattern("(x) = "+strings.Repeat("a(x, y), ", api.MaxAtoms-1)+"a(x, y)"), g, api.ErrFull)
	answers(t, pattern("(x) = b(x, y), b(y, z), a(w, w)"), g, list("(1 2 3 9)"), list("(1)"), []int{1})
	many := append(wide("c", greatest), wide("a", 100000)...)
	answers(t, pattern("(x) = c(x, y), a(z, z)"), many, nil, nil, nil)
	counted(t, pattern("(x) = c(x, y), a(x, y)"), many, greatest, false)
	counted(t, pattern("(x) = c(x, y), c(x, y), c(x, y), c(x, y), c(x, y), c(x, y), c(x, y), a(x, y)"), many, greatest, false)
}

// TestP11_1NoMoreRowsThanNeeded makes few rows of a pattern that has millions.
func TestP11_1NoMoreRowsThanNeeded(t *testing.T) {
	v, g := pattern("(x) = c(x, y), a(z, w)"), append(wide("c", greatest), wide("a", 2000)...)
	made := testing.AllocsPerRun(1, func() { refused(t, v, g, api.ErrFull) })
	if made > 200000 {
		t.Errorf("%v pieces of memory", made)
	}
}
