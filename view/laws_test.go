package view_test

import (
	"math/rand"
	"slices"
	"testing"

	"rhizome/api"
	"rhizome/tuple"
	"rhizome/view"
)

// subsets are all lists of some of the edges, in their order.
func subsets(edges []api.Edge) [][]api.Edge {
	var out [][]api.Edge
	for bits := range 1 << len(edges) {
		var l []api.Edge
		for i, e := range edges {
			if bits>>i&1 == 1 {
				l = append(l, e)
			}
		}
		out = append(out, l)
	}
	return out
}

// TestP18_1AllOfFewEdges has, of each set of some edges, each part go, and each part of some come: also such as are
// there still, such as aren't there, and such as are in both.
func TestP18_1AllOfFewEdges(t *testing.T) {
	parts := subsets(graph("1 a 2, 2 a 1, 2 a 2, 2 b 1"))
	for _, s := range []string{"(x) = a(x, y)", "(x, z) = a(x, y), a(y, z)", "(y) = a(y, x), b(x, y)", "(x) = a(x, x), b(z, y)", "= reach a"} {
		for _, edges := range parts {
			for _, gone := range parts {
				for _, come := range parts {
					k := made(t, of(s), edges)
					if e := k.do(t, gone, come); e == api.OK {
						contentIs(t, k.view, k.edges, k.applied)
						k.refused(t, come, gone, api.OK) // and back
					}
				}
			}
		}
	}
}

// TestP18_1AllListsOfCalls has all lists of two calls, of up to two of two edges that go and come.
func TestP18_1AllListsOfCalls(t *testing.T) {
	all := graph("1 a 2, 2 a 2")
	lists := [][]api.Edge{nil, all[:1], all[1:], all, {all[0], all[0]}, {all[1], all[0]}, graph("1 b 1, 2 a 2")}
	for _, s := range []string{"(x) = a(x, y)", "(x) = a(x, y), b(x, z)", "= reach a"} {
		for _, first := range [][]api.Edge{nil, all[:1], graph("1 a 2, 1 b 1")} {
			for i := range len(lists) * len(lists) {
				for j := range len(lists) * len(lists) {
					k := made(t, of(s), first)
					k.do(t, lists[i%len(lists)], lists[i/len(lists)])
					k.do(t, lists[j%len(lists)], lists[j/len(lists)])
				}
			}
		}
	}
}

// drawnLists are lists for Do that are drawn: most of them may go, and come.
func (k *kept) drawnLists(r *rand.Rand, nodes int) (gone, come []api.Edge) {
	if r.Intn(3) > 0 {
		gone = some(r, r.Intn(4), k.edges)
	}
	if r.Intn(3) > 0 {
		come = others(drawnEdges(r, nodes, 4), others(k.edges, gone))
	}
	if r.Intn(8) == 0 {
		come = append(come, gone...) // some of them may have been drawn: then they come twice
	}
	return gone, come
}

// drawnCall calls Do of such lists, or of some that are wrong.
func (k *kept) drawnCall(t *testing.T, r *rand.Rand, nodes int) api.Errno {
	t.Helper()
	gone, come := k.drawnLists(r, nodes)
	switch r.Intn(24) {
	case 0:
		gone = append(gone, drawnEdge(r, nodes))
	case 1:
		gone = append(gone, some(r, 1, gone)...)
	case 2:
		come = append(come, some(r, 1, come)...)
	case 3:
		come = append(come, some(r, 1, k.edges)...)
	}
	return k.do(t, gone, come)
}

// TestP18_1Drawn has lists of calls that are drawn, each held to the content made anew, to what Content tells, and to
// the delta that leads there.
func TestP18_1Drawn(t *testing.T) {
	r := rand.New(rand.NewSource(1801))
	met := map[api.Errno]int{}
	kinds, tuples := map[int]int{}, 0
	for range 1500 {
		nodes := 1 + r.Intn(7)
		k := made(t, drawnView(r, 4), drawnEdges(r, nodes, 3*nodes))
		kinds[k.view.Kind]++
		for range 24 {
			met[k.drawnCall(t, r, nodes)]++
			contentIs(t, k.view, k.edges, k.applied)
			tuples += len(k.applied)
		}
	}
	if met[api.OK] < 20000 || met[api.ErrTwice] < 1000 || met[api.ErrNone] < 500 || kinds[api.KReach] < 300 || tuples < 50000 {
		t.Errorf("%v, %v, %d tuples", met, kinds, tuples)
	}
}

// TestP18_1DrawnOfManyAtoms has patterns of up to eight atoms.
func TestP18_1DrawnOfManyAtoms(t *testing.T) {
	r := rand.New(rand.NewSource(1802))
	for range 300 {
		nodes := 2 + r.Intn(3)
		v := drawnView(r, api.MaxAtoms)
		k := made(t, v, nil)
		for range 16 {
			k.drawnCall(t, r, nodes)
		}
	}
}

// TestP18_1DrawnNearTooGreat has views that are full, or nearly so: each call goes on from where the one ahead led, or
// from where it was, if it was refused.
func TestP18_1DrawnNearTooGreat(t *testing.T) {
	r := rand.New(rand.NewSource(1803))
	met := map[api.Errno]int{}
	var cross []api.Edge
	for i := range 54 {
		cross = append(cross, api.Edge{From: i % 8, Label: "a", To: i / 8}, api.Edge{From: i % 8, Label: "b", To: i / 8})
	}
	for _, c := range []struct {
		s     string
		edges []api.Edge
	}{
		{"= reach a", ring(63, 1)}, {"= reach a", row(89, 1)}, {"= reach a", append(ring(44, 1), ring(44, 45)...)}, {"= reach a", append(fan(1, "a", 60, 2), hub(1, "a", 60, 100)...)},
		{"(x, w) = a(x, y), b(z, w)", cross}, {"(x, z) = a(x, y), b(z, w), a(z, x)", cross}, {"(w) = a(x, y), b(z, w), a(w, w)", cross},
	} {
		k := made(t, of(c.s), c.edges)
		nodes := append(k.ends(), 901, 902, 903, 904)
		for range 60 {
			gone := some(r, r.Intn(5)/2, k.edges)
			var come []api.Edge
			for range 1 + r.Intn(4) {
				come = append(come, api.Edge{From: nodes[r.Intn(len(nodes))], Label: []string{"a", "a", "b"}[r.Intn(3)], To: nodes[r.Intn(len(nodes))]})
			}
			met[k.do(t, gone, others(come, others(k.edges, gone)))]++
		}
		contentIs(t, k.view, k.edges, k.applied)
	}
	if met[api.OK] < 200 || met[api.ErrFull] < 50 {
		t.Errorf("%v", met)
	}
}

// ends are those of the edges, rising.
func (k *kept) ends() []int {
	var out []int
	for _, e := range k.edges {
		out = append(out, e.From, e.To)
	}
	slices.Sort(out)
	return slices.Compact(out)
}

// TestP18_2DeltasBehindEachOther has the deltas of many calls applied, and put together: they lead from the first
// content to the last, which is what Content tells.
func TestP18_2DeltasBehindEachOther(t *testing.T) {
	r := rand.New(rand.NewSource(1804))
	changed, both := 0, 0
	for range 500 {
		nodes := 2 + r.Intn(6)
		k := made(t, drawnView(r, 3), drawnEdges(r, nodes, 12))
		first, applied, all := k.standing.Read(), k.standing.Read(), api.Delta{}
		for range 30 {
			gone, come := k.drawnLists(r, nodes)
			d, e := k.standing.Do(gone, come)
			if e == api.OK {
				k.edges = k.behind(gone, come)
			}
			var f, g api.Errno
			all, f = tuple.Then(all, d)
			if applied, g = tuple.Apply(applied, d); f != api.OK || g != api.OK {
				t.Fatalf("%s: %s fits neither: %d, %d", k.told(), told(d), f, g)
			}
			if got := k.standing.Read(); !equal(got, applied) {
				t.Fatalf("%s: %v, by the deltas %v", k.told(), got, applied)
			}
			contentIs(t, k.view, k.edges, applied)
			if !tuple.Empty(d) {
				changed++
			}
			if len(d.Add) > 0 && len(d.Del) > 0 {
				both++
			}
		}
		if got, e := tuple.Apply(first, all); e != api.OK || !equal(got, applied) {
			t.Fatalf("%s: %s leads from %v to %v, %d", k.told(), told(all), first, got, e)
		}
	}
	if changed < 3000 || both < 300 {
		t.Errorf("only %d deltas that change, %d both ways", changed, both)
	}
}

// TestP18_2ThereAndBack has edges go and come, and the other way round: the one delta leads back what the other one did.
func TestP18_2ThereAndBack(t *testing.T) {
	r := rand.New(rand.NewSource(1805))
	for range 600 {
		nodes := 1 + r.Intn(7)
		k := made(t, drawnView(r, 3), drawnEdges(r, nodes, 12))
		for range 8 {
			gone := some(r, r.Intn(4), k.edges)
			come := others(drawnEdges(r, nodes, 5), others(k.edges, gone))
			ahead := k.standing.Read()
			there, e := k.standing.Do(gone, come)
			behind := k.standing.Read()
			back, f := k.standing.Do(some(r, len(come), come), some(r, len(gone), gone))
			if e != api.OK || f != api.OK || !equalDeltas(back, tuple.Back(there)) {
				t.Fatalf("%s: Do of %v, %v: %s, %d, and back %s, %d", k.told(), gone, come, told(there), e, told(back), f)
			}
			if got, e := tuple.Apply(ahead, there); e != api.OK || !equal(got, behind) || !equal(k.standing.Read(), ahead) {
				t.Fatalf("%s: Do of %v, %v, and back: %v, was %v, by %v", k.told(), gone, come, k.standing.Read(), ahead, behind)
			}
			k.do(t, gone, come) // and once more
		}
	}
}

// TestP18_2EachWayTheSame has the edges there at New, all at once, one by one, in other orders, and beside others that go.
func TestP18_2EachWayTheSame(t *testing.T) {
	r := rand.New(rand.NewSource(1806))
	for range 500 {
		nodes := 2 + r.Intn(6)
		v, edges := drawnView(r, 3), others(drawnEdges(r, nodes, 14), nil)
		more := others(drawnEdges(r, nodes, 5), edges)
		want := made(t, v, edges).applied
		one := made(t, v, more)
		for _, e := range some(r, len(edges), edges) {
			one.refused(t, nil, []api.Edge{e}, api.OK)
		}
		one.refused(t, some(r, len(more), more), nil, api.OK)
		at := made(t, v, more)
		at.refused(t, more, some(r, len(edges), edges), api.OK)
		mixed := made(t, v, some(r, len(edges), edges))
		for _, k := range []*kept{one, at, mixed} {
			if got := k.standing.Read(); !equal(got, want) {
				t.Fatalf("%s: %v, want %v", k.told(), got, want)
			}
			k.refused(t, some(r, len(edges), edges), nil, api.OK)
			k.is(t, "")
		}
	}
}

// TestP18_2TwoStandingViews has two of the same view and edges, of which each goes its own way.
func TestP18_2TwoStandingViews(t *testing.T) {
	edges := graph("1 a 2, 2 a 3")
	a, b := made(t, of("= reach a"), edges), made(t, of("= reach a"), edges)
	a.done(t, "", "3 a 4", "(1 4)(2 4)(3 4)", "")
	b.done(t, "1 a 2", "3 a 2", "(2 2)(3 2)(3 3)", "(1 2)(1 3)")
	a.done(t, "2 a 3", "", "", "(1 3)(1 4)(2 3)(2 4)")
	a.is(t, "(1 2)(3 4)")
	b.is(t, "(2 2)(2 3)(3 2)(3 3)")
	c, d := made(t, of("(x) = a(x, y)"), edges), made(t, of("(y) = a(x, y)"), edges)
	c.done(t, "1 a 2", "3 a 4", "(3)", "(1)")
	d.done(t, "2 a 3", "3 a 4", "(4)", "(3)")
	c.is(t, "(2)(3)")
	d.is(t, "(2)(4)")
	if got, e := view.Content(of("= reach a"), edges); e != api.OK || !equal(got, list("(1 2)(1 3)(2 3)")) {
		t.Errorf("%v, %d", got, e)
	}
}
