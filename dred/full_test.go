package dred_test

import (
	"slices"
	"testing"

	"rhizome/api"
	"rhizome/dred"
)

// tooGreat holds New to refuse edges whose span is too great.
func tooGreat(t *testing.T, edges []api.Edge) {
	t.Helper()
	if d, e := dred.New("a", edges); d != nil || e != api.ErrFull {
		t.Errorf("New of %s: %v, %d", brief(edges), d, e)
	}
}

// fullCases are edges that span MaxTuples tuples; each of more makes it more; less spans so many fewer.
func fullCases() []struct {
	edges, more, less []api.Edge
	fewer             int
} {
	type edges = []api.Edge
	full := func(n int, l edges) edges { return append(l, apart(api.MaxTuples-n, 5001)...) }
	return []struct {
		edges, more, less []api.Edge
		fewer             int
	}{
		{full(0, nil), graph("5002 a 1, 1 a 1, 5002 a 5001, 5001 a 5001, 1 a 5003"), graph("5001 a 5002, 5003 a 5004"), 2},
		{full(3969, ring(63, 1, 1)), graph("1 a 64, 64 a 1, 70 a 70, 5001 a 1, 5001 a 5003"), graph("63 a 1"), 3969 - 63*62/2},
		{full(3916, row(89, 1, 1)), graph("89 a 1, 0 a 1, 89 a 90, 1 a 90, 5 a 4, 7 a 7"), graph("44 a 45"), 44 * 45},
		{full(3968, hub(62, 62)), graph("500 a 500, 501 a 502, 438 a 1, 501 a 438, 1 a 500"), graph("500 a 501"), 63},
		{full(3990, fan(1, 3990, 2)), graph("0 a 1, 2 a 1, 1 a 1, 2 a 3, 3991 a 2, 1 a 3992"), graph("1 a 2, 1 a 3991"), 2},
	}
}

func TestP14_1MaxTuples(t *testing.T) {
	for _, c := range fullCases() {
		k := made(t, c.edges)
		k.counts(t, api.MaxTuples)
		for _, e := range c.more {
			tooGreat(t, append(slices.Clone(c.edges), e))
			tooGreat(t, append([]api.Edge{e}, c.edges...))
			k.refused(t, []api.Edge{e}, true, api.ErrFull)
		}
		tooGreat(t, slices.Concat(c.edges, c.more))
		k.refused(t, c.more, true, api.ErrFull)
		k.refused(t, labelled("b", c.more), true, api.OK)
		k.refused(t, nil, true, api.OK)
		k.refused(t, c.less, false, api.OK)
		k.counts(t, api.MaxTuples-c.fewer)
		k.refused(t, c.less, true, api.OK)
		k.counts(t, api.MaxTuples)
		k.refused(t, c.more[:1], true, api.ErrFull)
	}
}

// TestP14_1EdgesThatTheSpanHas come to a span of MaxTuples: they are new, but no pair of theirs is.
func TestP14_1EdgesThatTheSpanHas(t *testing.T) {
	k := made(t, append(ring(63, 1, 1), apart(31, 5001)...))
	k.come(t, "1 a 1, 1 a 3, 3 a 1, 63 a 62", "")
	k.refused(t, graph("1 a 4, 5002 a 5001"), true, api.ErrFull)
	k.refused(t, graph("1 a 4, 4 a 1"), true, api.OK)
	k.counts(t, api.MaxTuples)
	k.refused(t, ring(63, 1, 1)[2:3], false, api.OK) // 3 a 4: by 1 a 4 now
	k.counts(t, api.MaxTuples)
}

// TestP14_1MaxTuplesAtOneDo comes to MaxTuples, and to more, from no edges.
func TestP14_1MaxTuplesAtOneDo(t *testing.T) {
	for _, c := range fullCases() {
		k := made(t, nil)
		for _, e := range c.more {
			k.refused(t, append(slices.Clone(c.edges), e), true, api.ErrFull) // at its last edge
			k.refused(t, append([]api.Edge{e}, c.edges...), true, api.ErrFull)
			k.refused(t, slices.Insert(slices.Clone(c.edges), len(c.edges)/2, e), true, api.ErrFull)
		}
		k.is(t, "")
		k.refused(t, c.edges, true, api.OK)
		k.counts(t, api.MaxTuples)
		k.refused(t, c.more[:1], true, api.ErrFull)
		k.refused(t, c.edges, false, api.OK)
		k.is(t, "")
		k.refused(t, c.edges, true, api.OK)
	}
}

// TestP14_1MaxTuplesEdgeByEdge comes there by single edges: the first one too many is refused.
func TestP14_1MaxTuplesEdgeByEdge(t *testing.T) {
	d, _ := dred.New("a", nil)
	for i, e := range apart(api.MaxTuples+1, 1) {
		want := api.OK
		if i == api.MaxTuples {
			want = api.ErrFull
		}
		if got, e := d.Do([]api.Edge{e}, true); e != want || len(got.Add) != min(1, api.MaxTuples-i) {
			t.Fatalf("%d: %v, %d", i, got, e)
		}
	}
	k := made(t, nil)
	for i, e := range ring(64, 1, 1) {
		want := api.OK
		if i == 63 {
			want = api.ErrFull // from 64*63/2 to 64*64
		}
		k.refused(t, []api.Edge{e}, true, want)
	}
	k.counts(t, 64*63/2)
	k.refused(t, graph("64 a 65"), true, api.OK)
	k.refused(t, graph("63 a 1"), true, api.ErrFull)
	k.refused(t, graph("62 a 60"), true, api.OK)
}

// TestP14_1AFullDredGoesOn has a Do that is refused as too great, and others behind it: nothing of it was kept.
func TestP14_1AFullDredGoesOn(t *testing.T) {
	k := made(t, append(row(60, 1, 1), row(60, 101, 1)...))
	k.refused(t, graph("7 a 3, 200 a 201, 60 a 101, 300 a 300"), true, api.ErrFull)
	k.refused(t, graph("60 a 101"), true, api.ErrFull)
	k.refused(t, graph("200 a 201"), true, api.OK)
	k.refused(t, graph("300 a 300"), true, api.OK)
	k.refused(t, graph("7 a 3"), true, api.OK)
	k.refused(t, graph("160 a 1"), true, api.ErrFull)
	k.refused(t, graph("30 a 31"), false, api.OK)
	k.refused(t, graph("20 a 21, 130 a 131"), false, api.OK)
	k.refused(t, graph("160 a 1"), true, api.OK) // there is room for it now
	k.refused(t, graph("30 a 31, 20 a 21, 130 a 131"), true, api.ErrFull)
	k.refused(t, graph("160 a 1"), false, api.OK)
	k.refused(t, graph("30 a 31, 20 a 21, 130 a 131"), true, api.OK)
}

// TestP14_1WhichErrorOfSeveral has lists that are wrong in more than one way: an edge that is wrong is told ahead of ErrFull.
func TestP14_1WhichErrorOfSeveral(t *testing.T) {
	edges := append(ring(63, 1, 1), apart(31, 5001)...)
	k := made(t, edges)
	k.refused(t, graph("70 a 70"), true, api.ErrFull)
	for _, s := range []string{"70 a 70, 1 a 2", "1 a 2, 70 a 70", "70 a 70, 71 a 72, 70 a 70", "70 a 70, 1 b 2, 63 a 1", "70 b 70, 71 a 71, 70 b 70, 71 a 71"} {
		k.refused(t, graph(s), true, api.ErrTwice)
	}
	k.refused(t, append(apart(9000, 9001), edges[5]), true, api.ErrTwice)
	k.refused(t, append(apart(9000, 9001), apart(1, 9001)...), true, api.ErrTwice)
	k.refused(t, apart(9000, 9001), true, api.ErrFull)
	k.refused(t, append(edges[:90:90], graph("70 a 70")...), false, api.ErrNone)
	k.refused(t, append(edges[:90:90], edges[7]), false, api.ErrTwice)
	k.refused(t, slices.Concat(edges, edges[:1], graph("70 a 70")), false, api.ErrTwice)
	k.refused(t, slices.Concat(edges, graph("70 a 70"), edges[:1]), false, api.ErrNone)
	k.refused(t, edges, false, api.OK)
	k.refused(t, append(graph("70 a 70"), edges...), true, api.ErrFull)
	k.refused(t, slices.Concat(graph("70 a 70"), edges, edges[:1]), true, api.ErrTwice)
}

// TestP14_1ErrFullOfNew holds New to span.Pairs' error, with edges that are there twice, and of other labels.
func TestP14_1ErrFullOfNew(t *testing.T) {
	for _, g := range [][]api.Edge{ring(64, 1, 1), row(90, 1, 1), hub(62, 63), fan(1, 4001, 2), apart(4001, 1)} {
		tooGreat(t, g)
		tooGreat(t, append(labelled("b", ring(9, 1, 1)), g...))
		made(t, slices.Concat(g[1:], g[1:], g[2:]))
		made(t, labelled("b", g))
		madeOf(t, "b", g)
	}
}

// TestP14_1LongLists ends soon, though there are many edges, however deep they lead.
func TestP14_1LongLists(t *testing.T) {
	const n = 100000
	up, down, wide := row(n, 1, 1), row(n, n, -1), fan(1, n, 2)
	for _, g := range [][]api.Edge{up, down, ring(n, 1, 1), slices.Concat(up, down), wide, apart(n, 1), hub(n, n)} {
		tooGreat(t, g)
		k := made(t, append(ring(60, 1, 1), graph("600000 a 600001")...))
		k.refused(t, others(g, k.edges), true, api.ErrFull)
		k.refused(t, others(g, k.edges), false, api.ErrNone)
		k.refused(t, labelled("b", g), true, api.OK)
		k.refused(t, labelled("b", g), false, api.OK)
		k.refused(t, append(labelled("b", g), graph("1 a 2")...), false, api.OK)
		k.refused(t, append(labelled("b", g), graph("9 a 10")...), true, api.ErrTwice)
		k.refused(t, append(labelled("b", g), graph("1 a 2")...), true, api.OK)
	}
	var twice []api.Edge
	for range n / 50 {
		twice = append(twice, ring(50, 1, 1)...)
	}
	k := made(t, twice)
	k.counts(t, 2500)
	k.refused(t, twice, false, api.ErrTwice)
	k.refused(t, ring(50, 1, 1), false, api.OK)
	k.refused(t, twice, true, api.ErrTwice)
}

// TestP14_1WideAndDeep ends soon, though much is deleted, and derived again from the last to the first.
func TestP14_1WideAndDeep(t *testing.T) {
	wide := slices.Concat(graph("1 a 2, 1 a 3"), fan(2, 1500, 10), fan(3, 700, 810))
	k := made(t, wide)
	for range 20 {
		k.refused(t, graph("1 a 2"), false, api.OK)
		k.refused(t, graph("1 a 2"), true, api.OK)
	}
	clique := make([]api.Edge, 0, 63*63)
	for i := range 63 * 63 {
		clique = append(clique, api.Edge{From: 1 + i/63, Label: "a", To: 1 + i%63})
	}
	k = made(t, clique)
	for i := range 5 {
		k.refused(t, clique[63*i:63*12*i], false, api.OK)
		k.counts(t, 63*(63-11*i)) // so many nodes lead nowhere any more
		k.refused(t, clique[63*i:63*12*i], true, api.OK)
	}
	k.refused(t, clique, false, api.OK)
	k.refused(t, clique, true, api.OK)
	back := append(row(87, 87, -1), graph("100 a 87, 101 a 87, 100 a 101")...) // from 100 on its nodes fall
	k = made(t, back)
	for range 20 {
		k.refused(t, graph("100 a 87"), false, api.OK)
		k.refused(t, graph("100 a 87"), true, api.OK)
	}
}
