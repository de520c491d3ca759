package dred_test

import (
	"math/rand"
	"slices"
	"testing"

	"rhizome/api"
	"rhizome/dred"
	"rhizome/tuple"
)

// TestP14_1AllOfThreeNodes has, of each set of edges between three nodes, each part go, and come back.
func TestP14_1AllOfThreeNodes(t *testing.T) {
	for all := range 1 << 9 {
		k := made(t, between(3, all))
		for part := all; part > 0; part = (part - 1) & all {
			ahead := k.dred.Read()
			k.refused(t, between(3, part), false, api.OK)
			k.refused(t, between(3, part), true, api.OK)
			if got := k.dred.Read(); !equal(got, ahead) {
				t.Fatalf("%s: %v, was %v", k.told(), got, ahead)
			}
		}
	}
}

// TestP14_1AllOfFourNodes has, of each set of edges between four nodes but those from one to itself, each edge go, and
// come back.
func TestP14_1AllOfFourNodes(t *testing.T) {
	for bits := range 1 << 16 {
		if bits&0b1000010000100001 != 0 {
			continue
		}
		k := made(t, between(4, bits))
		for i := range 16 {
			if bits>>i&1 == 1 {
				k.refused(t, between(4, 1<<i), false, api.OK)
				k.refused(t, between(4, 1<<i), true, api.OK)
			}
		}
	}
}

// TestP14_1AllListsOfCalls has all lists of three calls, of up to two of three edges, one of another label.
func TestP14_1AllListsOfCalls(t *testing.T) {
	type call struct {
		edges []api.Edge
		add   bool
	}
	all := graph("1 a 2, 2 a 1, 2 b 3")
	var calls []call
	for _, add := range []bool{true, false} {
		calls = append(calls, call{nil, add})
		for _, e := range all {
			calls = append(calls, call{[]api.Edge{e}, add})
			for _, f := range all {
				calls = append(calls, call{[]api.Edge{e, f}, add})
			}
		}
	}
	for _, a := range calls {
		for _, b := range calls {
			for _, c := range calls {
				k := made(t, all[:1])
				k.do(t, a.edges, a.add)
				k.do(t, b.edges, b.add)
				k.do(t, c.edges, c.add)
			}
		}
	}
}

// drawnCall calls Do of edges that are drawn: most of them may come, or may go.
func (k *kept) drawnCall(t *testing.T, r *rand.Rand, nodes int) (bool, api.Errno) {
	t.Helper()
	add, edges := r.Intn(2) == 0, drawnEdges(r, nodes, 5)
	if !add {
		edges = some(r, r.Intn(5), k.edges)
		if r.Intn(6) == 0 {
			edges = append(edges, drawnEdge(r, nodes))
		}
	} else if r.Intn(4) > 0 {
		edges = others(edges, k.edges)
	}
	if len(edges) > 0 && r.Intn(10) == 0 {
		edges = append(edges, edges[r.Intn(len(edges))])
	}
	return add, k.do(t, edges, add)
}

// TestP14_1Drawn has lists of calls that are drawn, each held to the span made anew, and to the delta that leads to it.
func TestP14_1Drawn(t *testing.T) {
	r := rand.New(rand.NewSource(1401))
	met := map[api.Errno]int{}
	pairs, over := 0, 0
	for range 1500 {
		nodes := 1 + r.Intn(10)
		k := made(t, drawnEdges(r, nodes, 2*nodes))
		for range 30 {
			add, e := k.drawnCall(t, r, nodes)
			if met[e]++; e == api.ErrTwice && !add {
				met[-e]++ // told apart from that with add
			}
			pairs += len(k.applied)
			if k.over > 0 {
				over++
			}
		}
	}
	if met[api.OK] < 10000 || met[api.ErrTwice] < 1000 || met[-api.ErrTwice] < 300 || met[api.ErrNone] < 500 || pairs < 300000 || over < 1000 {
		t.Errorf("%v, %d pairs, %d times some derived again", met, pairs, over)
	}
}

// TestP14_1DrawnOfMoreNodes has more of them, and deeper ways.
func TestP14_1DrawnOfMoreNodes(t *testing.T) {
	r := rand.New(rand.NewSource(1402))
	for range 100 {
		nodes := 10 + r.Intn(40)
		k := made(t, mixed(r, row(nodes, 1, 1)))
		for range 40 {
			k.drawnCall(t, r, nodes)
		}
	}
}

// TestP14_1DrawnNearMaxTuples has dreds that are full, or nearly so: each call goes on from where the one ahead led.
func TestP14_1DrawnNearMaxTuples(t *testing.T) {
	r := rand.New(rand.NewSource(1403))
	met := map[api.Errno]int{}
	for _, edges := range [][]api.Edge{ring(63, 1, 1), row(89, 1, 1), append(ring(40, 1, 1), row(60, 20, 1)...), hub(60, 60), append(ring(44, 1, 1), ring(44, 45, 1)...)} {
		k := made(t, others(edges, nil))
		nodes := nodesOf(k.edges)
		for range 60 {
			var more []api.Edge
			for range 1 + r.Intn(3) {
				more = append(more, api.Edge{From: nodes[r.Intn(len(nodes))], Label: "a", To: nodes[r.Intn(len(nodes))]})
			}
			met[k.do(t, others(more, k.edges), true)]++
			if r.Intn(3) > 0 {
				gone := some(r, 1+r.Intn(3), k.edges)
				met[k.do(t, gone, false)]++
				met[k.do(t, some(r, r.Intn(4), gone), true)]++
			}
		}
	}
	if met[api.OK] < 200 || met[api.ErrFull] < 30 {
		t.Errorf("%v", met)
	}
}

// TestP14_2ThereAndBack has lists of edges come and go: behind both all is as it was, and the one delta leads back what
// the other one did.
func TestP14_2ThereAndBack(t *testing.T) {
	r := rand.New(rand.NewSource(1404))
	for range 800 {
		nodes := 1 + r.Intn(9)
		k := made(t, drawnEdges(r, nodes, 2*nodes))
		for range 8 {
			add := r.Intn(2) == 0
			edges := some(r, 1+r.Intn(6), k.edges)
			if add {
				edges = others(drawnEdges(r, nodes, 6), k.edges)
			}
			ahead := k.dred.Read()
			there, e := k.dred.Do(edges, add)
			behind := k.dred.Read()
			back, f := k.dred.Do(mixed(r, edges), !add)
			if e != api.OK || f != api.OK || !equalDeltas(back, tuple.Back(there)) {
				t.Fatalf("%s: Do of %v, %v: %v, %d, and back %v, %d", k.told(), edges, add, there, e, back, f)
			}
			if got, e := tuple.Apply(ahead, there); e != api.OK || !equal(got, behind) || !equal(k.dred.Read(), ahead) {
				t.Fatalf("%s: Do of %v, %v, and back: %v, were %v, by %v", k.told(), edges, add, k.dred.Read(), ahead, behind)
			}
			k.over = k.dred.Over()
			k.holds(t)
			k.do(t, edges, add) // and once more
		}
	}
}

// TestP14_2DeltasBehindEachOther has the deltas of many calls applied, and put together: they lead from the first span to the last.
func TestP14_2DeltasBehindEachOther(t *testing.T) {
	r := rand.New(rand.NewSource(1405))
	for range 300 {
		nodes := 2 + r.Intn(8)
		k := made(t, drawnEdges(r, nodes, 12))
		first, all := k.dred.Read(), api.Delta{}
		applied := first
		for range 30 {
			add := r.Intn(2) == 0
			edges := some(r, r.Intn(4), k.edges)
			if add {
				edges = drawnEdges(r, nodes, 3)
			}
			d, e := k.dred.Do(edges, add)
			if e == api.OK {
				k.changed(edges, add)
			}
			var f, g api.Errno
			all, f = tuple.Then(all, d)
			applied, g = tuple.Apply(applied, d)
			if f != api.OK || g != api.OK {
				t.Fatalf("%s: %v fits neither: %d, %d", k.told(), d, f, g)
			}
		}
		k.over = k.dred.Over()
		if last := k.holds(t); !equal(applied, last) {
			t.Fatalf("%s: the deltas lead to %v, want %v", k.told(), applied, last)
		}
		if got, e := tuple.Apply(first, all); e != api.OK || !equal(got, applied) {
			t.Fatalf("%s: %v leads from %v to %v, %d", k.told(), all, first, got, e)
		}
	}
}

// TestP14_2EachWayTheSame has the edges come one by one, all at once and at New, in any orders, with others that come and go.
func TestP14_2EachWayTheSame(t *testing.T) {
	r := rand.New(rand.NewSource(1406))
	for range 400 {
		nodes := 2 + r.Intn(8)
		edges := others(drawnEdges(r, nodes, 14), nil)
		more := others(drawnEdges(r, nodes, 5), edges)
		want := made(t, edges).dred.Read()
		one := made(t, nil)
		one.do(t, more, true)
		for _, e := range mixed(r, edges) {
			one.do(t, []api.Edge{e}, true)
		}
		one.refused(t, mixed(r, more), false, api.OK)
		if got := one.dred.Read(); !equal(got, want) {
			t.Fatalf("%s: %v, want %v", one.told(), got, want)
		}
		one.refused(t, mixed(r, edges), false, api.OK)
		one.is(t, "")
		one.refused(t, mixed(r, edges), true, api.OK)
		if got := one.dred.Read(); !equal(got, want) {
			t.Fatalf("%s: %v, want %v", one.told(), got, want)
		}
	}
}

// TestP14_2AllGoAndComeBack has great graphs whose edges go one by one, and come back, each in any order.
func TestP14_2AllGoAndComeBack(t *testing.T) {
	r := rand.New(rand.NewSource(1407))
	for _, edges := range [][]api.Edge{row(40, 1, 1), ring(40, 40, -1), hub(30, 30), append(ring(20, 1, 1), ring(20, 20, -1)...), apart(50, 1), between(7, 1<<49-1)} {
		k := made(t, edges)
		first := k.dred.Read()
		for _, e := range mixed(r, k.edges) {
			k.refused(t, []api.Edge{e}, false, api.OK)
		}
		k.is(t, "")
		for _, e := range mixed(r, others(edges, nil)) {
			k.refused(t, []api.Edge{e}, true, api.OK)
		}
		if got := k.dred.Read(); !equal(got, first) {
			t.Errorf("%s: %s, was %s", k.told(), brief(got), brief(first))
		}
	}
}

// TestP14_2TwoDreds has dreds of the same edges, of which each goes its own way.
func TestP14_2TwoDreds(t *testing.T) {
	edges := graph("1 a 2, 2 a 3")
	a, b := made(t, edges), made(t, edges)
	a.come(t, "3 a 4", "(1 4)(2 4)(3 4)")
	b.leave(t, "1 a 2", "(1 2)(1 3)")
	a.leave(t, "2 a 3", "(1 3)(1 4)(2 3)(2 4)")
	b.come(t, "3 a 2", "(2 2)(3 2)(3 3)")
	a.is(t, "(1 2)(3 4)")
	b.is(t, "(2 2)(2 3)(3 2)(3 3)")
	other, e := dred.New("b", edges)
	if e != api.OK || len(other.Read()) != 0 || slices.ContainsFunc(edges, func(e api.Edge) bool { return other.Has(e.From, e.To) }) {
		t.Errorf("%v, %d", other.Read(), e)
	}
}
