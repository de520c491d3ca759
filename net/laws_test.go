package net_test

import (
	"math/rand"
	"slices"
	"testing"

	"rhizome/api"
	"rhizome/tuple"
)

// TestP12_1AllSmall has all patterns of up to two atoms of two labels go through all graphs of two nodes: from each to
// the next one an edge comes, or goes.
func TestP12_1AllSmall(t *testing.T) {
	all := graph("2 b 2, 1 a 1, 2 a 1, 1 b 2, 2 a 2, 1 b 1, 1 a 2, 2 b 1")
	for i, atoms := range append(shapes(1, "a", "b"), shapes(2, "a", "b")...) {
		vars := toldVars(atoms)
		k := made(t, patternOf(slices.Concat(vars[i%len(vars):], vars[:i%len(vars)])[:1+i/2%len(vars)], atoms), nil)
		for step := 1; step < 1<<len(all); step++ {
			at := 0 // of the lowest bit: so all sets of edges come, one by one
			for step>>at&1 == 0 {
				at++
			}
			k.refused(t, all[at:at+1], !slices.Contains(k.edges, all[at]), api.OK)
		}
	}
}

// TestP12_1AllListsOfCalls has all lists of three calls, of up to two of three edges.
func TestP12_1AllListsOfCalls(t *testing.T) {
	type call struct {
		edges []api.Edge
		add   bool
	}
	all := graph("1 a 2, 2 a 2, 2 b 1")
	var calls []call
	for _, add := range []bool{true, false} {
		calls = append(calls, call{nil, add})
		for _, e := range all {
			calls = append(calls, call{[]api.Edge{e}, add})
			for _, f := range all {
				calls = append(calls, call{[]api.Edge{e, f}, add})
			}
		}
	}
	for _, s := range []string{"(x) = a(x, y)", "(x, z) = a(x, y), a(y, z)", "(x) = a(y, x), b(x, y)"} {
		for _, a := range calls {
			for _, b := range calls {
				for _, c := range calls {
					k := made(t, pattern(s), all[1:2])
					k.do(t, a.edges, a.add)
					k.do(t, b.edges, b.add)
					k.do(t, c.edges, c.add)
				}
			}
		}
	}
}

// drawnCall calls Do of edges that are drawn: most of them may come, or may go.
func (k *kept) drawnCall(t *testing.T, r *rand.Rand, nodes int) (bool, api.Errno) {
	t.Helper()
	add, edges := r.Intn(5) < 3, drawnEdges(r, nodes, 8)
	if !add {
		edges = some(r, r.Intn(5), k.edges)
		if r.Intn(6) == 0 {
			edges = append(edges, drawnEdge(r, nodes))
		}
	} else if r.Intn(4) > 0 {
		edges = slices.DeleteFunc(edges, func(e api.Edge) bool { return slices.Contains(k.edges, e) })
	}
	if len(edges) > 0 && r.Intn(10) == 0 {
		edges = append(edges, edges[r.Intn(len(edges))])
	}
	return add, k.do(t, edges, add)
}

func TestP12_1Drawn(t *testing.T) {
	r := rand.New(rand.NewSource(1201))
	met := map[api.Errno]int{}
	rows := 0
	for range 1200 {
		nodes := 1 + r.Intn(6)
		k := made(t, drawnPattern(r, 4, 7), drawnEdges(r, nodes, 30))
		for range 24 {
			add, e := k.drawnCall(t, r, nodes)
			if met[e]++; e == api.ErrTwice && !add {
				met[-e]++ // told apart from that with add
			}
			rows += k.net.Rows()
		}
	}
	if met[api.OK] < 10000 || met[api.ErrTwice] < 1000 || met[-api.ErrTwice] < 300 || met[api.ErrNone] < 500 || rows < 100000 {
		t.Errorf("%v, %d rows", met, rows)
	}
}

// TestP12_1DrawnNearMaxRows has nets that are full, or nearly so: each call goes on from where the one ahead led.
func TestP12_1DrawnNearMaxRows(t *testing.T) {
	r := rand.New(rand.NewSource(1207))
	met := map[api.Errno]int{}
	for _, s := range []string{"(x) = a(x, y), b(z, w)", "(x, z) = a(x, y), b(z, w), c(z, x)", "(w) = c(x, x), a(x, y), b(z, w), a(w, y)", "(x) = a(x, y), a(z, w)"} {
		v := pattern(s)
		var edges []api.Edge
		for _, e := range append(grid("a", 54), grid("b", 54)...) {
			edges = append(edges, api.Edge{From: e.From % 8, Label: e.Label, To: e.From / 8})
		}
		k := made(t, v, append(edges, graph("1 c 1")...))
		for range 150 {
			_, e := k.drawnCall(t, r, 12)
			met[e]++
		}
	}
	if met[api.OK] < 150 || met[api.ErrFull] < 20 {
		t.Errorf("%v", met)
	}
}

func TestP12_1DrawnOfManyAtoms(t *testing.T) {
	r := rand.New(rand.NewSource(1202))
	for range 300 {
		nodes := 2 + r.Intn(3)
		k := made(t, drawnPattern(r, api.MaxAtoms, 5), nil)
		for range 20 {
			k.drawnCall(t, r, nodes)
		}
	}
}

// TestP12_2ThereAndBack has lists of edges come and go: behind both all is as it was, and the one delta leads back what
// the other one did.
func TestP12_2ThereAndBack(t *testing.T) {
	r := rand.New(rand.NewSource(1203))
	for range 500 {
		nodes := 1 + r.Intn(6)
		k := made(t, drawnPattern(r, 3, 4), drawnEdges(r, nodes, 8))
		for range 8 {
			add := r.Intn(2) == 0
			edges := some(r, 1+r.Intn(8), k.edges)
			if add {
				edges = others(drawnEdges(r, nodes, 8), k.edges)
			}
			read, levels := k.net.Read(), k.net.Levels()
			there, e := k.net.Do(edges, add)
			if e == api.ErrFull {
				continue
			}
			back, f := k.net.Do(some(r, len(edges), edges), !add)
			if e != api.OK || f != api.OK || !equalDeltas(back, tuple.Back(there)) {
				t.Fatalf("%s: Do of %v, %v: %v, %d, and back %v, %d", k.told(), edges, add, there, e, back, f)
			}
			if !equal(k.net.Read(), read) || !slices.Equal(k.net.Levels(), levels) {
				t.Fatalf("%s: Do of %v, %v, and back: %v, %v, were %v, %v", k.told(), edges, add, k.net.Read(), k.net.Levels(), read, levels)
			}
			k.holds(t)
			k.do(t, edges, add) // and once more
		}
	}
}

// others are those of the edges that aren't there, each once.
func others(edges, there []api.Edge) []api.Edge {
	var out []api.Edge
	for _, e := range edges {
		if !slices.Contains(there, e) && !slices.Contains(out, e) {
			out = append(out, e)
		}
	}
	return out
}

// TestP12_2DeltasBehindEachOther has the deltas of many calls put together: they lead from the first result to the last.
func TestP12_2DeltasBehindEachOther(t *testing.T) {
	r := rand.New(rand.NewSource(1204))
	for range 300 {
		nodes := 2 + r.Intn(5)
		k := made(t, drawnPattern(r, 3, 4), drawnEdges(r, nodes, 10))
		first, all := k.net.Read(), api.Delta{}
		for range 30 {
			ahead := k.net.Read()
			k.drawnCall(t, r, nodes)
			d, _ := tuple.Diff(ahead, k.net.Read())
			both, e := tuple.Then(all, d)
			if e != api.OK {
				t.Fatalf("Then of %v, %v: %d", all, d, e)
			}
			all = both
		}
		if got, e := tuple.Apply(first, all); e != api.OK || !equal(got, k.net.Read()) {
			t.Fatalf("%s: %v leads from %v to %v, %d", k.told(), all, first, got, e)
		}
	}
}

// TestP12_2EachWayTheSame has the edges come one by one, all at once and at New, in any orders, with others that come and go.
func TestP12_2EachWayTheSame(t *testing.T) {
	r := rand.New(rand.NewSource(1205))
	for range 300 {
		nodes := 2 + r.Intn(4)
		v, edges := drawnPattern(r, 3, 4), others(drawnEdges(r, nodes, 14), nil)
		more := others(drawnEdges(r, nodes, 4), edges)
		k := made(t, v, edges)
		for range 4 {
			one := made(t, v, nil)
			if one.do(t, more, true) != api.OK {
				continue
			}
			for _, e := range some(r, len(edges), edges) {
				one.do(t, []api.Edge{e}, true)
			}
			one.do(t, some(r, len(more), more), false)
			if len(one.edges) < len(edges) {
				continue // with the others it was too great
			}
			if !equal(one.net.Read(), k.net.Read()) || !slices.Equal(one.net.Levels(), k.net.Levels()) {
				t.Fatalf("%s: %v, %v, want %v, %v", one.told(), one.net.Read(), one.net.Levels(), k.net.Read(), k.net.Levels())
			}
			one.refused(t, some(r, len(edges), edges), false, api.OK)
			one.refused(t, some(r, len(edges), edges), true, api.OK)
		}
	}
}

// TestP12_2ManyEdges has a graph of many edges change bit by bit.
func TestP12_2ManyEdges(t *testing.T) {
	r := rand.New(rand.NewSource(1206))
	for _, s := range []string{"(x, z) = a(x, y), b(y, z)", "(x) = a(x, y), a(y, z), a(z, x)", "(y) = a(x, y), b(x, x)", "(x, y) = a(x, y), b(x, y), a(y, z)"} {
		var edges []api.Edge
		for range 2500 {
			edges = append(edges, api.Edge{From: 1 + r.Intn(900), Label: string(rune('a' + r.Intn(2))), To: 1 + r.Intn(900)})
		}
		k := made(t, pattern(s), edges)
		for range 30 {
			gone := some(r, r.Intn(120), k.edges)
			k.refused(t, gone, false, api.OK)
			k.do(t, some(r, len(gone)-len(gone)/3, gone), true)
		}
	}
}
