package dred_test

import (
	"math"
	"slices"
	"strings"
	"testing"

	"rhizome/api"
	"rhizome/dred"
	"rhizome/span"
)

func TestP14_1Examples(t *testing.T) {
	k := made(t, graph("1 a 2, 2 a 3, 1 a 4, 4 a 3"))
	k.is(t, "(1 2)(1 3)(1 4)(2 3)(4 3)")
	k.leave(t, "2 a 3", "(2 3)")
	k.leave(t, "4 a 3", "(1 3)(4 3)")
	k.is(t, "(1 2)(1 4)")
}

func TestP14_1NewOfNoEdges(t *testing.T) {
	for _, edges := range [][]api.Edge{nil, {}, graph("1 b 2, 2 b 1, 3 aa 3")} {
		k := made(t, edges)
		k.is(t, "")
		k.refused(t, graph("1 a 2"), false, api.ErrNone)
		k.come(t, "1 a 2", "(1 2)")
		k.come(t, "2 a 3", "(1 3)(2 3)")
		k.leave(t, "1 a 2, 2 a 3", "(1 2)(1 3)(2 3)")
		k.is(t, "")
	}
}

func TestP14_1NewOfManyEdges(t *testing.T) {
	made(t, row(80, 1, 1)).counts(t, 80*79/2)
	made(t, row(80, 80, -1)).counts(t, 80*79/2)
	made(t, ring(60, 7, 3)).counts(t, 3600)
	made(t, hub(60, 60)).counts(t, 60*62)
	made(t, apart(3000, 1)).counts(t, 3000)
	made(t, fan(5, 3000, 4)).counts(t, 3000)
}

func TestP14_1Rows(t *testing.T) {
	k := made(t, graph("1 a 2, 2 a 3"))
	k.come(t, "3 a 4", "(1 4)(2 4)(3 4)")
	k.come(t, "9 a 1", "(9 1)(9 2)(9 3)(9 4)")
	k.leave(t, "2 a 3", "(1 3)(1 4)(2 3)(2 4)(9 3)(9 4)")
	k.is(t, "(1 2)(3 4)(9 1)(9 2)")
	k.come(t, "2 a 3", "(1 3)(1 4)(2 3)(2 4)(9 3)(9 4)")
	k.leave(t, "9 a 1, 3 a 4", "(1 4)(2 4)(3 4)(9 1)(9 2)(9 3)(9 4)")
	k.is(t, "(1 2)(1 3)(2 3)")
	k = made(t, nil)
	k.come(t, "3 a 2, 4 a 3, 2 a 1, 5 a 4", "(2 1)(3 1)(3 2)(4 1)(4 2)(4 3)(5 1)(5 2)(5 3)(5 4)")
	k.leave(t, "4 a 3, 3 a 2", "(3 1)(3 2)(4 1)(4 2)(4 3)(5 1)(5 2)(5 3)")
	k.is(t, "(2 1)(5 4)")
}

func TestP14_1Trees(t *testing.T) {
	k := made(t, graph("1 a 2, 1 a 3, 2 a 4, 2 a 5, 3 a 6"))
	k.come(t, "6 a 7, 0 a 1", "(0 1)(0 2)(0 3)(0 4)(0 5)(0 6)(0 7)(1 7)(3 7)(6 7)")
	k.leave(t, "1 a 3", "(0 3)(0 6)(0 7)(1 3)(1 6)(1 7)")
	k.leave(t, "2 a 4, 3 a 6", "(0 4)(1 4)(2 4)(3 6)(3 7)")
	k.is(t, "(0 1)(0 2)(0 5)(1 2)(1 5)(2 5)(6 7)")
	k = made(t, graph("6 a 3, 5 a 2, 4 a 2, 3 a 1, 2 a 1")) // turned round
	k.leave(t, "2 a 1", "(2 1)(4 1)(5 1)")
	k.come(t, "2 a 6", "(2 1)(2 3)(2 6)(4 1)(4 3)(4 6)(5 1)(5 3)(5 6)")
}

func TestP14_1Rings(t *testing.T) {
	k := made(t, graph("1 a 2, 2 a 3"))
	k.come(t, "3 a 1", "(1 1)(2 1)(2 2)(3 1)(3 2)(3 3)")
	k.leave(t, "2 a 3", "(1 1)(1 3)(2 1)(2 2)(2 3)(3 3)")
	k.is(t, "(1 2)(3 1)(3 2)")
	k.come(t, "2 a 3", "(1 1)(1 3)(2 1)(2 2)(2 3)(3 3)")
	k.come(t, "2 a 1", "") // a shorter one
	k.leave(t, "3 a 1", "(3 1)(3 2)(3 3)")
	k.is(t, "(1 1)(1 2)(1 3)(2 1)(2 2)(2 3)")
	k = made(t, graph("1 a 2, 2 a 1, 1 a 3, 3 a 1, 2 a 3, 3 a 2"))
	for _, s := range []string{"1 a 2", "3 a 1", "2 a 3"} {
		k.leave(t, s, "")
		k.come(t, s, "")
	}
	k.leave(t, "1 a 2, 2 a 3, 3 a 1", "")                       // the other way round is left
	k.leave(t, "1 a 3", "(1 1)(1 2)(1 3)(2 2)(2 3)(3 3)")       // that is none any more
	k.come(t, "1 a 3, 1 a 2", "(1 1)(1 2)(1 3)(2 2)(2 3)(3 3)") // two at once
}

func TestP14_1RingsThatShareANode(t *testing.T) {
	k := made(t, graph("1 a 2, 2 a 1"))
	k.come(t, "2 a 3, 3 a 2", "(1 3)(2 3)(3 1)(3 2)(3 3)")
	k.leave(t, "1 a 2", "(1 1)(1 2)(1 3)")
	k.is(t, "(2 1)(2 2)(2 3)(3 1)(3 2)(3 3)")
	k.leave(t, "3 a 2", "(2 2)(3 1)(3 2)(3 3)")
	k.is(t, "(2 1)(2 3)")
	k = made(t, graph("1 a 2, 2 a 3, 3 a 1, 3 a 4, 4 a 5, 5 a 3"))
	k.counts(t, 25)
	k.leave(t, "2 a 3", "(1 1)(1 3)(1 4)(1 5)(2 1)(2 2)(2 3)(2 4)(2 5)")
	k.come(t, "2 a 4", "(1 1)(1 3)(1 4)(1 5)(2 1)(2 2)(2 3)(2 4)(2 5)")
	k.leave(t, "3 a 1, 5 a 3", "(1 1)(1 3)(2 1)(2 2)(2 3)(3 1)(3 2)(3 3)(4 1)(4 2)(4 3)(4 4)(5 1)(5 2)(5 3)(5 4)(5 5)")
	k.is(t, "(1 2)(1 4)(1 5)(2 4)(2 5)(3 4)(3 5)(4 5)")
}

func TestP14_1PartsThatDoNotMeet(t *testing.T) {
	k := made(t, graph("1 a 2, 4 a 3, 7 a 8, 8 a 7"))
	k.is(t, "(1 2)(4 3)(7 7)(7 8)(8 7)(8 8)")
	k.leave(t, "4 a 3", "(4 3)")
	k.come(t, "4 a 3, 5 a 5", "(4 3)(5 5)")
	k.come(t, "3 a 1", "(3 1)(3 2)(4 1)(4 2)") // they meet
	k.leave(t, "3 a 1, 8 a 7", "(3 1)(3 2)(4 1)(4 2)(7 7)(8 7)(8 8)")
	k.is(t, "(1 2)(4 3)(5 5)(7 8)")
}

// TestP14_1OneEdgeAndSeveral has the same edges come and go at once, and one by one.
func TestP14_1OneEdgeAndSeveral(t *testing.T) {
	all := graph("1 a 2, 2 a 3, 3 a 1, 3 a 4, 4 a 5, 5 a 5, 6 a 2, 1 a 5")
	at, one := made(t, nil), made(t, nil)
	at.refused(t, all, true, api.OK)
	for _, e := range all {
		one.refused(t, []api.Edge{e}, true, api.OK)
	}
	if !equal(at.dred.Read(), one.dred.Read()) {
		t.Errorf("%v, %v", at.dred.Read(), one.dred.Read())
	}
	at.refused(t, all[1:6], false, api.OK)
	for _, e := range all[1:6] {
		one.refused(t, []api.Edge{e}, false, api.OK)
	}
	at.is(t, "(1 2)(1 5)(6 2)")
	one.is(t, "(1 2)(1 5)(6 2)")
}

func TestP14_1AnEdgeTwiceAtNew(t *testing.T) {
	k := made(t, graph("1 a 2, 1 a 2, 2 a 3, 1 a 2, 4 b 4, 4 b 4, 5 a 5, 5 a 5"))
	k.is(t, "(1 2)(1 3)(2 3)(5 5)")
	k.refused(t, graph("1 a 2"), true, api.ErrTwice)
	k.leave(t, "1 a 2", "(1 2)(1 3)")
	k.refused(t, graph("1 a 2"), false, api.ErrNone)
	k.leave(t, "5 a 5", "(5 5)")
	k.come(t, "1 a 2", "(1 2)(1 3)")
	k = made(t, slices.Concat(ring(63, 1, 1), ring(63, 1, 1), ring(63, 1, 1)))
	k.counts(t, 3969)
	k.refused(t, ring(63, 1, 1), false, api.OK)
	k.counts(t, 0)
}

// TestP14_1OtherLabels has edges that mean nothing, whether they are there, come twice, or have what is no label.
func TestP14_1OtherLabels(t *testing.T) {
	k := made(t, graph("1 a 2, 2 b 3, 2 aa 3, 3 a 4"))
	k.is(t, "(1 2)(3 4)")
	for _, s := range []string{"2 b 3", "7 b 7", "2 aa 3, 2 aa 3", "1 b 2, 2 b 1, 1 b 2", "9 other 9"} {
		k.come(t, s, "")
		k.come(t, s, "")
		k.leave(t, s, "")
		k.leave(t, s, "")
	}
	odd := []api.Edge{{}, {From: 2, Label: "", To: 3}, {From: 2, Label: "A", To: 3}, {From: 2, Label: "a ", To: 3}, {From: 2, Label: "a\x00", To: 3}, {From: 2, Label: "\xff", To: 3}, {From: 2, Label: strings.Repeat("a", 17), To: 3}}
	for _, add := range []bool{true, false, true} {
		k.refused(t, append(odd, odd...), add, api.OK)
	}
	k.is(t, "(1 2)(3 4)")
	k.come(t, "2 b 3, 2 a 3, 2 aa 3, 2 b 3, 3 b 1", "(1 3)(1 4)(2 3)(2 4)")
	k.leave(t, "9 b 9, 3 a 4, 3 b 4, 9 b 9, 2 a 3", "(1 3)(1 4)(2 3)(2 4)(3 4)")
	k.refused(t, graph("2 b 3, 1 a 2"), true, api.ErrTwice)
	k.refused(t, graph("2 b 3, 5 a 6, 2 b 3, 5 a 6"), true, api.ErrTwice)
	k.refused(t, graph("1 a 2, 7 b 7, 8 a 8"), false, api.ErrNone)
	k.refused(t, graph("7 b 7, 1 a 2, 7 b 7, 1 a 2"), false, api.ErrTwice)
	k.is(t, "(1 2)")

	k = madeOf(t, "aa", graph("1 a 2, 1 aa 3, 3 aaa 4"))
	k.is(t, "(1 3)")
	k.come(t, "3 a 4, 3 aa 5, 3 aaa 6", "(1 5)(3 5)")
	long := strings.Repeat("z", api.MaxName)
	k = madeOf(t, long, graph("1 "+long+" 2, 2 "+long+"z 3, 2 "+long[1:]+" 4"))
	k.is(t, "(1 2)")
	k.come(t, "2 "+long+"z 3, 2 "+long+" 5, 2 "+long[1:]+" 4", "(1 5)(2 5)")
}

func TestP14_1AnEmptyListOfEdges(t *testing.T) {
	for _, k := range []*kept{made(t, nil), made(t, graph("1 a 2, 2 a 1, 2 b 2")), made(t, ring(63, 1, 1)), made(t, apart(api.MaxTuples, 1))} {
		for _, edges := range [][]api.Edge{nil, {}} {
			k.refused(t, edges, true, api.OK)
			k.refused(t, edges, false, api.OK)
		}
	}
}

func TestP14_1AnEdgeToItself(t *testing.T) {
	k := made(t, graph("1 a 1"))
	k.is(t, "(1 1)")
	k.come(t, "1 a 2", "(1 2)")
	k.leave(t, "1 a 1", "(1 1)")
	k.come(t, "2 a 2", "(2 2)")
	k.come(t, "2 a 1", "(1 1)(2 1)")
	k.leave(t, "2 a 2", "") // round by 1
	k.come(t, "2 a 2, 1 a 1", "")
	k.leave(t, "2 a 1", "(2 1)")
	k.leave(t, "1 a 2", "(1 2)")
	k.is(t, "(1 1)(2 2)")
	k.leave(t, "1 a 1, 2 a 2", "(1 1)(2 2)")
	k.come(t, "3 a 3, 3 a 4, 4 a 4, 4 a 5", "(3 3)(3 4)(3 5)(4 4)(4 5)")
	k.leave(t, "3 a 3, 4 a 4", "(3 3)(4 4)")
}

// TestP14_1DerivedAgainDirectly has pairs that an edge derives again, when a way of several edges goes.
func TestP14_1DerivedAgainDirectly(t *testing.T) {
	k := made(t, graph("1 a 2, 2 a 3, 1 a 3"))
	k.leave(t, "1 a 2", "(1 2)")
	k.come(t, "1 a 2", "(1 2)")
	k.leave(t, "2 a 3", "(2 3)")
	k.come(t, "2 a 3", "(2 3)")
	k.leave(t, "1 a 3", "")
	k.leave(t, "2 a 3", "(1 3)(2 3)")
	k = made(t, graph("1 a 2, 2 a 3, 3 a 4, 1 a 4, 2 a 4, 1 a 3"))
	k.leave(t, "2 a 3", "(2 3)")
	k.leave(t, "3 a 4, 1 a 2", "(1 2)(3 4)")
	k.is(t, "(1 3)(1 4)(2 4)")
}

// TestP14_1DerivedAgainOverSeveralSteps has another way, of many nodes: they rise along it, fall along it, and neither.
func TestP14_1DerivedAgainOverSeveralSteps(t *testing.T) {
	k := made(t, graph("1 a 2, 2 a 3, 1 a 5, 5 a 4, 4 a 3, 3 a 9, 9 a 8"))
	k.leave(t, "1 a 2", "(1 2)")
	k = made(t, graph("1 a 2, 2 a 3, 1 a 5, 5 a 4, 4 a 3, 3 a 9, 9 a 8"))
	k.leave(t, "2 a 3", "(2 3)(2 8)(2 9)")
	k.leave(t, "5 a 4", "(1 3)(1 4)(1 8)(1 9)(5 3)(5 4)(5 8)(5 9)")
	for _, way := range [][]int{{2, 3, 4, 5, 6, 7, 8, 9}, {9, 8, 7, 6, 5, 4, 3, 2}, {5, 9, 2, 7, 3, 8, 4, 6}, {3, 2, 5, 4, 7, 6, 9, 8}} {
		var edges []api.Edge
		for i, n := range way[1:] {
			edges = append(edges, api.Edge{From: way[i], Label: "a", To: n})
		}
		first, last := api.Edge{From: 1, Label: "a", To: way[0]}, api.Edge{From: way[7], Label: "a", To: 1}
		k = made(t, append(edges, first, last, api.Edge{From: 20, Label: "a", To: way[0]}, api.Edge{From: 1, Label: "a", To: 20}))
		k.counts(t, 100)
		k.refused(t, []api.Edge{first}, false, api.OK) // all by 20 now
		k.counts(t, 100)
		k.refused(t, []api.Edge{last}, false, api.OK)
		k.counts(t, 10*9/2)
	}
}

// TestP14_1OnlyRoundTheRing has pairs that derive one another round a ring, but nothing else derives.
func TestP14_1OnlyRoundTheRing(t *testing.T) {
	k := made(t, graph("1 a 2, 2 a 3, 3 a 2"))
	k.leave(t, "1 a 2", "(1 2)(1 3)")
	k.is(t, "(2 2)(2 3)(3 2)(3 3)")
	k = made(t, graph("1 a 2, 2 a 3, 3 a 4, 4 a 2, 4 a 9"))
	k.leave(t, "1 a 2", "(1 2)(1 3)(1 4)(1 9)")
	k.leave(t, "3 a 4", "(2 2)(2 4)(2 9)(3 2)(3 3)(3 4)(3 9)(4 4)")
	k.is(t, "(2 3)(4 2)(4 3)(4 9)")
	k = made(t, graph("1 a 2, 2 a 3, 3 a 1")) // each pair led through the edge
	k.leave(t, "3 a 1", "(1 1)(2 1)(2 2)(3 1)(3 2)(3 3)")
	k = made(t, graph("1 a 1, 1 a 2, 2 a 2, 2 a 3, 3 a 3"))
	k.leave(t, "1 a 2", "(1 2)(1 3)")
	k = made(t, graph("1 a 2, 2 a 3, 3 a 2, 3 a 4, 4 a 5, 5 a 4"))
	k.leave(t, "1 a 2, 3 a 4", "(1 2)(1 3)(1 4)(1 5)(2 4)(2 5)(3 4)(3 5)")
	k.is(t, "(2 2)(2 3)(3 2)(3 3)(4 4)(4 5)(5 4)(5 5)")
}

func TestP14_1WithAddErrTwice(t *testing.T) {
	k := made(t, graph("1 a 2, 3 a 4"))
	for _, s := range []string{"1 a 2", "3 a 4", "5 a 6, 1 a 2", "1 a 2, 5 a 6", "5 a 6, 5 a 6", "5 a 6, 2 a 3, 5 a 6", "2 a 3, 7 a 8, 7 a 8, 9 a 9", "1 a 2, 1 a 2", "2 a 3, 4 a 1, 3 a 4"} {
		k.refused(t, graph(s), true, api.ErrTwice)
		k.is(t, "(1 2)(3 4)")
	}
	k.come(t, "2 a 3, 4 a 1, 5 a 6", "(1 1)(1 3)(1 4)(2 1)(2 2)(2 3)(2 4)(3 1)(3 2)(3 3)(4 1)(4 2)(4 3)(4 4)(5 6)") // nothing of those was kept
	k.refused(t, graph("1 a 3"), true, api.OK)                                                                      // a pair of the span that is no edge
	k.refused(t, graph("1 a 3"), true, api.ErrTwice)
}

func TestP14_1WithoutAddErrNoneAndErrTwice(t *testing.T) {
	k := made(t, graph("1 a 2, 2 a 3, 5 a 5"))
	for _, c := range []struct {
		edges string
		want  api.Errno
	}{
		{"2 a 1", api.ErrNone}, {"1 a 3", api.ErrNone}, {"7 a 7", api.ErrNone}, {"1 a 2, 1 a 3", api.ErrNone}, {"2 a 3, 5 a 5, 1 a 2, 9 a 9", api.ErrNone}, {"9 a 9, 1 a 2", api.ErrNone},
		{"1 a 2, 1 a 2", api.ErrTwice}, {"1 a 2, 2 a 3, 1 a 2", api.ErrTwice}, {"5 a 5, 5 a 5", api.ErrTwice},
		{"9 a 9, 9 a 9", api.ErrNone}, // it isn't there at its first place
		// of two wrong ones the first is told
		{"1 a 2, 1 a 2, 9 a 9", api.ErrTwice}, {"1 a 2, 9 a 9, 1 a 2", api.ErrNone}, {"9 a 9, 1 a 2, 1 a 2", api.ErrNone},
		{"1 a 2, 2 a 3, 2 a 3, 1 a 2, 8 a 8", api.ErrTwice}, {"1 a 2, 2 a 3, 5 a 5, 5 a 5, 3 a 2", api.ErrTwice},
	} {
		k.refused(t, graph(c.edges), false, c.want)
		k.is(t, "(1 2)(1 3)(2 3)(5 5)")
	}
	k.leave(t, "5 a 5, 2 a 3, 1 a 2", "(1 2)(1 3)(2 3)(5 5)")
	for _, s := range []string{"1 a 2", "2 a 3", "5 a 5", "1 a 2, 1 a 2"} {
		k.refused(t, graph(s), false, api.ErrNone)
	}
}

// TestP14_1NoName has labels that are none: of no edges, of edges that have them, and ahead of ErrFull.
func TestP14_1NoName(t *testing.T) {
	for _, label := range []string{"", "A", "aB", "a1", "1", "_", "a b", " a", "a ", "a\n", "a\x00", "\x00", "`", "{", "é", "aé", "\xff", "ａ", strings.Repeat("a", 17), strings.Repeat("a", 1000)} {
		for _, edges := range [][]api.Edge{nil, graph("1 a 2, 2 a 1"), labelled(label, fan(1, 3, 2)), labelled(label, fan(1, api.MaxTuples+1, 2)), fan(1, api.MaxTuples+1, 2)} {
			if d, e := dred.New(label, edges); d != nil || e != api.ErrRange {
				t.Errorf("New(%q): %v, %d", label, d, e)
			}
		}
	}
	for _, label := range []string{"a", "z", "view", "reach", strings.Repeat("a", 16), "abcdefghijklmnop", "qrstuvwxyz"} {
		k := madeOf(t, label, labelled(label, graph("1 a 2")))
		k.is(t, "(1 2)")
		k.refused(t, labelled(label, graph("2 a 3")), true, api.OK)
		k.is(t, "(1 2)(1 3)(2 3)")
	}
}

func TestP14_1Has(t *testing.T) {
	k := made(t, graph("1 a 2, 2 a 3, 4 b 1, 5 a 5"))
	in := func(a, b int, want bool) {
		t.Helper()
		if got := k.dred.Has(a, b); got != want {
			t.Errorf("Has of %s, %d, %d: %v", k.told(), a, b, got)
		}
	}
	in(1, 2, true)
	in(1, 3, true)
	in(5, 5, true)
	in(2, 1, false)
	in(1, 1, false)
	in(4, 1, false)
	in(5, 1, false)
	for _, n := range []int{0, 4, 6, -1, api.MaxNode, api.MaxNode + 1, math.MinInt, math.MaxInt} { // nodes that no edge has
		in(n, 1, false)
		in(1, n, false)
		in(n, n, false)
	}
	k.refused(t, graph("3 a 1, 1 a 2"), true, api.ErrTwice)
	in(3, 1, false)
	k.refused(t, graph("3 a 1"), true, api.OK)
	in(3, 1, true)
	in(1, 1, true)
	k.refused(t, graph("1 a 2"), false, api.OK)
	in(1, 2, false)
	in(3, 1, true)
	in(3, 2, false)
}

// TestP14_1Over has calls of each kind: it is 0 at first and behind each with add, and stays behind those that are refused.
func TestP14_1Over(t *testing.T) {
	edges := graph("1 a 2, 1 a 3, 2 a 4, 3 a 4, 4 a 5, 5 a 6")
	over := func(k *kept, most int) {
		t.Helper()
		if got := k.dred.Over(); got < 0 || got > most {
			t.Errorf("Over of %s: %d, want at most %d", k.told(), got, most)
		}
	}
	k := made(t, edges)
	over(k, 0)
	k.refused(t, graph("9 a 9"), false, api.ErrNone)
	over(k, 0)
	k.refused(t, nil, false, api.OK)
	over(k, 0)
	k.leave(t, "2 a 4", "(2 4)(2 5)(2 6)")
	over(k, len(k.applied))
	was := k.dred.Over()
	for _, c := range []struct {
		edges string
		add   bool
		want  api.Errno
	}{{"2 a 4", false, api.ErrNone}, {"1 a 2, 1 a 2", false, api.ErrTwice}, {"1 a 2, 2 a 4", false, api.ErrNone}, {"1 a 2", true, api.ErrTwice}, {"2 a 4, 2 a 4", true, api.ErrTwice}} {
		k.refused(t, graph(c.edges), c.add, c.want)
		if got := k.dred.Over(); got != was {
			t.Errorf("Over: %d, was %d", got, was)
		}
	}
	k.refused(t, fan(1, api.MaxTuples, 100), true, api.ErrFull)
	if got := k.dred.Over(); got != was {
		t.Errorf("Over: %d, was %d", got, was)
	}
	k.come(t, "2 a 4", "(2 4)(2 5)(2 6)")
	over(k, 0)
	k.leave(t, "2 a 4", "(2 4)(2 5)(2 6)")
	k.refused(t, graph("7 b 7"), true, api.OK)
	over(k, 0)
	k.come(t, "2 a 4", "(2 4)(2 5)(2 6)")
	k.leave(t, "2 a 4", "(2 4)(2 5)(2 6)")
	k.refused(t, graph("7 b 7"), false, api.OK) // nothing was deleted
	over(k, 0)
	k.leave(t, "5 a 6", "(1 6)(3 6)(4 6)(5 6)")
	over(k, len(k.applied))
	k.refused(t, k.edges, false, api.OK)
	over(k, 0)
}

// TestP14_1AnyNumbers has edges between whatever numbers: they count as any others.
func TestP14_1AnyNumbers(t *testing.T) {
	k := made(t, graph("0 a -1, -1 a 0, 1001 a 0"))
	k.is(t, "(-1 -1)(-1 0)(0 -1)(0 0)(1001 -1)(1001 0)")
	k.leave(t, "0 a -1", "(-1 -1)(0 -1)(0 0)(1001 -1)")
	odd := []api.Edge{{From: math.MaxInt, Label: "a", To: math.MinInt}, {From: math.MinInt, Label: "a", To: 5}, {From: 5, Label: "a", To: math.MaxInt}}
	k.refused(t, odd, true, api.OK)
	k.counts(t, 2+9)
	for _, e := range odd {
		k.refused(t, []api.Edge{e}, true, api.ErrTwice)
		k.refused(t, []api.Edge{e, e}, false, api.ErrTwice)
		k.refused(t, []api.Edge{e}, false, api.OK)
		k.refused(t, []api.Edge{e}, false, api.ErrNone)
	}
	k.is(t, "(-1 0)(1001 0)")
}

// TestP14_1ReadIsTheSpan holds Read to span.Pairs by itself, of the edges in another order.
func TestP14_1ReadIsTheSpan(t *testing.T) {
	g := graph("4 a 3, 3 a 4, 2 a 1, 1 a 2, 2 b 3, 3 a 3, 2 a 9, 9 a 1")
	k := made(t, nil)
	for i := range g {
		k.refused(t, g[i:i+1], true, api.OK)
		want, e := span.Pairs("a", g[:i+1])
		if got := k.dred.Read(); e != api.OK || !equal(got, want) {
			t.Errorf("%v, %v", got, want)
		}
	}
	k.is(t, "(1 1)(1 2)(1 9)(2 1)(2 2)(2 9)(3 3)(3 4)(4 3)(4 4)(9 1)(9 2)(9 9)")
}
