package span_test

import (
	"math"
	"math/rand"
	"slices"
	"strings"
	"testing"

	"rhizome/api"
	"rhizome/span"
)

// is holds Pairs and Rings of the label a to what they are to answer, and all calls to what is told.
func is(t *testing.T, edges, pairs, ringsOf string) {
	t.Helper()
	g := graph(edges)
	spans(t, "a", g, list(pairs))
	rings(t, "a", g, groups(ringsOf))
	check(t, "a", g)
}

// way holds Way of the label a between the first and the last node to be these; "1 2" with no way: no.
func way(t *testing.T, edges string, want string) {
	t.Helper()
	l := numbers(want)
	leads(t, "a", graph(edges), l[0], l[len(l)-1], l)
	check(t, "a", graph(edges))
}

func noWay(t *testing.T, edges string, a, b int) {
	t.Helper()
	leads(t, "a", graph(edges), a, b, nil)
}

func TestP13_1Example(t *testing.T) {
	const g = "1 a 2, 2 a 3, 3 a 2"
	is(t, g, "(1 2)(1 3)(2 2)(2 3)(3 2)(3 3)", "2 3")
	way(t, g, "1 2 3")
	way(t, g, "2 3 2")
}

func TestP13_1Rows(t *testing.T) {
	is(t, "1 a 2", "(1 2)", "")
	is(t, "2 a 1", "(2 1)", "")
	is(t, "1 a 2, 2 a 3", "(1 2)(1 3)(2 3)", "")
	is(t, "2 a 3, 1 a 2", "(1 2)(1 3)(2 3)", "")
	is(t, "3 a 2, 2 a 1", "(2 1)(3 1)(3 2)", "")
	is(t, "5 a 1, 1 a 9, 9 a 3", "(1 3)(1 9)(5 1)(5 3)(5 9)(9 3)", "")
	is(t, "999 a 1000, 10 a 999, 9 a 10", "(9 10)(9 999)(9 1000)(10 999)(10 1000)(999 1000)", "")
	way(t, "1 a 2, 2 a 3, 3 a 4, 4 a 5", "1 2 3 4 5")
	way(t, "5 a 4, 4 a 3, 3 a 2, 2 a 1", "4 3 2")
	way(t, "5 a 1, 1 a 9, 9 a 3", "5 1 9 3")
	noWay(t, "1 a 2, 2 a 3, 3 a 4", 3, 1)
	noWay(t, "1 a 2, 2 a 3, 3 a 4", 4, 3)
	noWay(t, "1 a 2, 2 a 3, 3 a 4", 2, 2)
	noWay(t, "1 a 2, 3 a 2", 1, 3)
}

func TestP13_1Trees(t *testing.T) {
	is(t, "1 a 2, 1 a 3, 2 a 4, 2 a 5, 3 a 6", "(1 2)(1 3)(1 4)(1 5)(1 6)(2 4)(2 5)(3 6)", "")
	is(t, "6 a 3, 5 a 2, 4 a 2, 3 a 1, 2 a 1", "(2 1)(3 1)(4 1)(4 2)(5 1)(5 2)(6 1)(6 3)", "")
	is(t, "9 a 2, 9 a 4, 4 a 1, 4 a 3, 3 a 8", "(3 8)(4 1)(4 3)(4 8)(9 1)(9 2)(9 3)(9 4)(9 8)", "")
	way(t, "1 a 2, 1 a 3, 2 a 4, 2 a 5, 3 a 6", "1 3 6")
	way(t, "9 a 2, 9 a 4, 4 a 1, 4 a 3, 3 a 8", "9 4 3 8")
	noWay(t, "1 a 2, 1 a 3, 2 a 4, 2 a 5, 3 a 6", 2, 3)
	noWay(t, "1 a 2, 1 a 3, 2 a 4, 2 a 5, 3 a 6", 2, 6)
}

func TestP13_1Rings(t *testing.T) {
	is(t, "1 a 2, 2 a 1", "(1 1)(1 2)(2 1)(2 2)", "1 2")
	is(t, "1 a 2, 2 a 3, 3 a 1", "(1 1)(1 2)(1 3)(2 1)(2 2)(2 3)(3 1)(3 2)(3 3)", "1 2 3")
	is(t, "3 a 2, 2 a 1, 1 a 3", "(1 1)(1 2)(1 3)(2 1)(2 2)(2 3)(3 1)(3 2)(3 3)", "1 2 3")
	is(t, "1 a 4, 4 a 2, 2 a 3, 3 a 1", "(1 1)(1 2)(1 3)(1 4)(2 1)(2 2)(2 3)(2 4)(3 1)(3 2)(3 3)(3 4)(4 1)(4 2)(4 3)(4 4)", "1 2 3 4")
	way(t, "1 a 2, 2 a 3, 3 a 1", "1 2 3 1")
	way(t, "1 a 2, 2 a 3, 3 a 1", "3 1 2")
	way(t, "1 a 2, 2 a 1", "2 1 2")
	way(t, "3 a 2, 2 a 1, 1 a 3", "1 3 2")
}

func TestP13_1RingsThatShareANode(t *testing.T) {
	is(t, "1 a 2, 2 a 1, 2 a 3, 3 a 2", "(1 1)(1 2)(1 3)(2 1)(2 2)(2 3)(3 1)(3 2)(3 3)", "1 2 3")
	is(t, "5 a 5, 5 a 3, 3 a 5", "(3 3)(3 5)(5 3)(5 5)", "3 5")
	const g = "1 a 2, 2 a 3, 3 a 1, 3 a 4, 4 a 5, 5 a 3"
	rings(t, "a", graph(g), groups("1 2 3 4 5"))
	check(t, "a", graph(g))
	way(t, g, "1 2 3 4 5")
	way(t, g, "3 1 2 3")
	way(t, g, "4 5 3 1")
	rings(t, "a", graph("1 a 9, 9 a 1, 2 a 9, 9 a 2, 3 a 9, 9 a 3, 8 a 9, 9 a 7"), groups("1 2 3 9"))
}

func TestP13_1RingsOneBehindTheOther(t *testing.T) {
	is(t, "1 a 2, 2 a 1, 2 a 3, 3 a 4, 4 a 3", "(1 1)(1 2)(1 3)(1 4)(2 1)(2 2)(2 3)(2 4)(3 3)(3 4)(4 3)(4 4)", "1 2, 3 4")
	is(t, "1 a 2, 2 a 1, 3 a 2, 3 a 4, 4 a 3", "(1 1)(1 2)(2 1)(2 2)(3 1)(3 2)(3 3)(3 4)(4 1)(4 2)(4 3)(4 4)", "1 2, 3 4")
	is(t, "1 a 4, 4 a 1, 2 a 3, 3 a 2, 4 a 2", "(1 1)(1 2)(1 3)(1 4)(2 2)(2 3)(3 2)(3 3)(4 1)(4 2)(4 3)(4 4)", "1 4, 2 3")
	is(t, "3 a 3, 2 a 3, 2 a 2, 1 a 2, 1 a 1", "(1 1)(1 2)(1 3)(2 2)(2 3)(3 3)", "1, 2, 3")
	rings(t, "a", graph("1 a 2, 2 a 3, 3 a 2, 3 a 4, 4 a 5, 5 a 6, 6 a 5, 6 a 7"), groups("2 3, 5 6"))
	rings(t, "a", graph("7 a 6, 6 a 5, 5 a 6, 5 a 4, 4 a 3, 3 a 2, 2 a 3, 2 a 1"), groups("2 3, 5 6"))
}

func TestP13_1PartsThatDoNotMeet(t *testing.T) {
	is(t, "1 a 2, 4 a 3", "(1 2)(4 3)", "")
	is(t, "1 a 3, 2 a 4, 3 a 1, 4 a 2", "(1 1)(1 3)(2 2)(2 4)(3 1)(3 3)(4 2)(4 4)", "1 3, 2 4")
	is(t, "5 a 6, 6 a 5, 1 a 2, 2 a 3, 9 a 9, 7 a 8", "(1 2)(1 3)(2 3)(5 5)(5 6)(6 5)(6 6)(7 8)(9 9)", "5 6, 9")
	noWay(t, "1 a 2, 4 a 3", 1, 3)
	noWay(t, "1 a 3, 2 a 4, 3 a 1, 4 a 2", 1, 2)
	noWay(t, "1 a 3, 2 a 4, 3 a 1, 4 a 2", 3, 4)
	way(t, "1 a 3, 2 a 4, 3 a 1, 4 a 2", "4 2 4")
}

// TestP13_1RingsInOrder has rings told by their least nodes, however they are found, and nodes that are in none.
func TestP13_1RingsInOrder(t *testing.T) {
	rings(t, "a", graph("9 a 1, 1 a 9, 8 a 2, 2 a 8, 7 a 3, 3 a 7, 5 a 5"), groups("1 9, 2 8, 3 7, 5"))
	rings(t, "a", graph("5 a 5, 3 a 7, 7 a 3, 2 a 8, 8 a 2, 1 a 9, 9 a 1"), groups("1 9, 2 8, 3 7, 5"))
	rings(t, "a", graph("1 a 20, 20 a 3, 3 a 2, 2 a 1, 30 a 10, 10 a 30, 5 a 6, 6 a 30, 6 a 1"), groups("1 2 3 20, 10 30"))
	rings(t, "a", graph("9 a 1, 1 a 9, 9 a 8, 8 a 2, 2 a 8, 2 a 7, 7 a 3, 3 a 7, 3 a 5, 5 a 5, 5 a 6, 4 a 1"), groups("1 9, 2 8, 3 7, 5"))
	rings(t, "a", graph("6 a 5, 5 a 5, 5 a 3, 3 a 7, 7 a 3, 7 a 2, 2 a 8, 8 a 2, 8 a 1, 1 a 9, 9 a 1, 9 a 4"), groups("1 9, 2 8, 3 7, 5"))
	rings(t, "a", graph("2 a 2, 11 a 11, 10 a 10, 1 a 1, 100 a 9, 9 a 100"), groups("1, 2, 9 100, 10, 11"))
}

func TestP13_1AnEdgeTwice(t *testing.T) {
	is(t, "1 a 2, 1 a 2", "(1 2)", "")
	is(t, "1 a 2, 2 a 3, 1 a 2, 2 a 3, 1 a 2", "(1 2)(1 3)(2 3)", "")
	is(t, "1 a 1, 1 a 1", "(1 1)", "1")
	is(t, "1 a 2, 2 a 1, 2 a 1, 1 a 2", "(1 1)(1 2)(2 1)(2 2)", "1 2")
	way(t, "1 a 2, 1 a 2, 2 a 3, 2 a 3", "1 2 3")
	noWay(t, "1 a 2, 1 a 2", 2, 1)
	noWay(t, "1 a 2, 1 a 2", 1, 1)
}

func TestP13_1AnEdgeToItself(t *testing.T) {
	is(t, "1 a 1", "(1 1)", "1")
	is(t, "1 a 1, 1 a 2", "(1 1)(1 2)", "1")
	is(t, "1 a 2, 2 a 2, 2 a 3", "(1 2)(1 3)(2 2)(2 3)", "2")
	is(t, "1 a 2, 2 a 1, 2 a 2", "(1 1)(1 2)(2 1)(2 2)", "1 2")
	is(t, "3 a 3, 1 a 1, 2 a 1", "(1 1)(2 1)(3 3)", "1, 3")
	way(t, "1 a 1", "1 1")
	way(t, "1 a 2, 2 a 1, 2 a 2", "2 2")
	way(t, "1 a 2, 2 a 1, 2 a 2", "1 2 1")
	way(t, "1 a 1, 1 a 2, 2 a 2, 2 a 3, 3 a 3", "1 2 3")
	noWay(t, "1 a 2, 2 a 2", 1, 1)
}

// TestP13_1AWayToItself needs one edge at least, and takes the shortest one round.
func TestP13_1AWayToItself(t *testing.T) {
	noWay(t, "1 a 2", 1, 1)
	noWay(t, "1 a 2", 2, 2)
	way(t, "4 a 1, 1 a 2, 2 a 4, 4 a 9, 9 a 4", "4 9 4")
	way(t, "4 a 1, 1 a 4, 4 a 9, 9 a 4", "4 1 4")
	way(t, "4 a 1, 1 a 4, 4 a 9, 9 a 4, 4 a 4", "4 4")
	way(t, "1 a 2, 2 a 3, 3 a 4, 4 a 1, 1 a 5, 5 a 6, 6 a 1", "1 5 6 1")
	way(t, "1 a 2, 2 a 3, 3 a 3, 3 a 1", "1 2 3 1")
}

// TestP13_1TheFirstOfTheShortest has ways of one length that differ at the first node between, in the middle, at the last.
func TestP13_1TheFirstOfTheShortest(t *testing.T) {
	for _, c := range []struct{ edges, want string }{
		{"1 a 2, 1 a 3, 2 a 9, 3 a 9", "1 2 9"},
		{"1 a 3, 1 a 2, 3 a 9, 2 a 9", "1 2 9"},
		{"9 a 7, 9 a 6, 7 a 1, 6 a 1", "9 6 1"},
		{"1 a 2, 1 a 3, 2 a 8, 3 a 4, 8 a 9, 4 a 9", "1 2 8 9"}, // at the first: what stands behind is greater
		{"1 a 3, 1 a 2, 3 a 4, 2 a 8, 4 a 9, 8 a 9", "1 2 8 9"},
		{"1 a 2, 2 a 5, 2 a 4, 4 a 8, 5 a 7, 8 a 9, 7 a 9", "1 2 4 8 9"}, // in the middle
		{"1 a 2, 2 a 4, 2 a 5, 5 a 7, 4 a 8, 7 a 9, 8 a 9", "1 2 4 8 9"},
		{"1 a 2, 2 a 3, 3 a 5, 3 a 4, 4 a 9, 5 a 9", "1 2 3 4 9"}, // at the last
		{"1 a 2, 2 a 3, 3 a 4, 3 a 5, 5 a 9, 4 a 9", "1 2 3 4 9"},
		{"1 a 10, 1 a 9, 10 a 2, 9 a 2", "1 9 2"}, // as numbers, not as texts
		{"5 a 6, 5 a 4, 6 a 5, 4 a 5", "5 4 5"},
		{"1 a 2, 1 a 3, 2 a 4, 3 a 5, 5 a 9", "1 3 5 9"}, // the lesser one leads nowhere
		{"1 a 2, 2 a 4, 1 a 3, 3 a 9, 4 a 2, 2 a 1", "1 3 9"},
	} {
		way(t, c.edges, c.want)
	}
}

// TestP13_1ShorterAheadOfLesser has longer ways whose nodes are less.
func TestP13_1ShorterAheadOfLesser(t *testing.T) {
	way(t, "1 a 2, 2 a 3, 3 a 9, 1 a 8, 8 a 9", "1 8 9")
	way(t, "1 a 8, 8 a 9, 1 a 2, 2 a 3, 3 a 9", "1 8 9")
	way(t, "5 a 1, 1 a 2, 2 a 6, 5 a 6", "5 6")
	way(t, "9 a 1, 1 a 2, 2 a 3, 3 a 10, 9 a 7, 7 a 8, 8 a 10", "9 7 8 10")
	way(t, "1 a 2, 2 a 3, 3 a 4, 4 a 9, 2 a 7, 7 a 9", "1 2 7 9")
	way(t, "1 a 2, 2 a 3, 3 a 1, 1 a 9, 9 a 1", "1 9 1")
	way(t, "4 a 1, 1 a 1, 1 a 5, 4 a 9, 9 a 5, 4 a 5", "4 5")
}

func TestP13_1OtherLabels(t *testing.T) {
	g := graph("1 a 2, 2 b 3, 3 a 4, 4 ab 1, 2 aa 3, 4 b 5, 5 b 4, 6 aa 6")
	spans(t, "a", g, list("(1 2)(3 4)"))
	spans(t, "b", g, list("(2 3)(4 4)(4 5)(5 4)(5 5)"))
	spans(t, "ab", g, list("(4 1)"))
	spans(t, "c", g, nil)
	rings(t, "a", g, nil)
	rings(t, "b", g, groups("4 5"))
	rings(t, "aa", g, groups("6"))
	rings(t, "c", g, nil)
	leads(t, "a", g, 1, 3, nil)
	leads(t, "a", g, 2, 3, nil)
	leads(t, "b", g, 4, 4, []int{4, 5, 4})
	leads(t, "aa", g, 6, 6, []int{6, 6})
	leads(t, "c", g, 1, 2, nil)
	for _, label := range []string{"a", "b", "aa", "ab", "c"} {
		check(t, label, g)
	}
	wrong := []api.Edge{{From: 1, Label: "", To: 2}, {From: 1, Label: "A", To: 2}, {From: 1, Label: "a ", To: 2}, {From: 1, Label: "a\x00", To: 2}, {From: 1, Label: "\xff", To: 2}, {From: 1, Label: "á", To: 2}}
	spans(t, "a", wrong, nil)
	spans(t, "a", append(wrong, graph("2 a 3")...), list("(2 3)"))
	leads(t, "a", append(wrong, graph("2 a 3")...), 1, 3, nil)
	long := strings.Repeat("z", api.MaxName)
	check(t, long, graph("1 "+long+" 2, 2 "+long+" 1, 1 "+long+"z 3, 2 "+long[1:]+" 4"))
	spans(t, long, graph("1 "+long+" 2, 1 "+long+"z 3, 2 "+long[1:]+" 4"), list("(1 2)"))
}

func TestP13_1NoEdges(t *testing.T) {
	for _, edges := range [][]api.Edge{nil, {}, make([]api.Edge, 0, 4), graph("1 b 2, 2 b 1")} {
		spans(t, "a", edges, nil)
		rings(t, "a", edges, nil)
		for _, a := range []int{0, 1, 2} {
			leads(t, "a", edges, a, 1, nil)
		}
	}
}

// TestP13_1NodesThatNoEdgeHas asks for ways between nodes that are not there.
func TestP13_1NodesThatNoEdgeHas(t *testing.T) {
	g := graph("2 a 3, 3 a 2, 5 a 4, 4 a 3, 6 b 2, 2 b 6")
	for _, none := range []int{1, 6, 7, 1000, 1001, 0, -1, math.MinInt, math.MaxInt} {
		for _, there := range []int{2, 3, 4, 5, none} {
			leads(t, "a", g, none, there, nil)
			leads(t, "a", g, there, none, nil)
		}
	}
	leads(t, "a", g, 2, 5, nil)
	leads(t, "a", g, 5, 5, nil)
	leads(t, "a", g, 5, 2, []int{5, 4, 3, 2})
}

// TestP13_1AnyNumbers has edges between whatever numbers: they count as any others.
func TestP13_1AnyNumbers(t *testing.T) {
	is(t, "0 a -1, -1 a 0, 1001 a 0", "(-1 -1)(-1 0)(0 -1)(0 0)(1001 -1)(1001 0)", "-1 0")
	way(t, "1 a 0, 1 a -5, 1 a 2, 0 a 9, -5 a 9, 2 a 9", "1 -5 9")
	g := []api.Edge{{From: math.MaxInt, Label: "a", To: math.MinInt}, {From: math.MinInt, Label: "a", To: 0}, {From: 0, Label: "a", To: math.MaxInt}}
	check(t, "a", g)
	rings(t, "a", g, [][]int{{math.MinInt, 0, math.MaxInt}})
	leads(t, "a", g, math.MaxInt, 0, []int{math.MaxInt, math.MinInt, 0})
}

// noNames are texts that are none.
func noNames() []string {
	return []string{"", "A", "aB", "Za", "a1", "1", "_", "a_b", "a b", " a", "a ", "a\n", "a\x00", "\x00", "`", "{", "é", "aé", "\xff", "a\xff", "ａ", strings.Repeat("a", 17), strings.Repeat("a", 1000)}
}

// refused holds all calls to ErrRange, beside which nothing is answered.
func refused(t *testing.T, label string, edges []api.Edge, a, b int) {
	t.Helper()
	if got, e := span.Pairs(label, edges); e != api.ErrRange || got != nil {
		t.Errorf("Pairs(%q): %s, %d", label, brief(got), e)
	}
	if got, e := span.Way(label, edges, a, b); e != api.ErrRange || got != nil {
		t.Errorf("Way(%q): %s, %d", label, brief(got), e)
	}
	if got, e := span.Rings(label, edges); e != api.ErrRange || got != nil {
		t.Errorf("Rings(%q): %s, %d", label, brief(got), e)
	}
}

// TestP13_1NoName has labels that are none: of no edges, of edges that have them, and ahead of the other errors.
func TestP13_1NoName(t *testing.T) {
	for _, label := range noNames() {
		var many []api.Edge
		for i := range api.MaxTuples + 1 {
			many = append(many, api.Edge{From: 1, Label: label, To: 2 + i})
		}
		refused(t, label, nil, 1, 2)
		refused(t, label, graph("1 a 2, 2 a 1"), 1, 2)
		refused(t, label, graph("1 a 2, 2 a 1"), 5, 6) // ahead of ErrNone
		refused(t, label, many[:1], 1, 2)
		refused(t, label, many, 1, 2) // ahead of ErrFull
		refused(t, label, many, 2, 1)
	}
	for _, label := range []string{"a", "z", "view", "reach", strings.Repeat("a", 16), "abcdefghijklmnop", "qrstuvwxyz"} {
		spans(t, label, []api.Edge{{From: 1, Label: label, To: 2}}, list("(1 2)"))
		leads(t, label, []api.Edge{{From: 1, Label: label, To: 2}}, 1, 2, []int{1, 2})
		rings(t, label, []api.Edge{{From: 1, Label: label, To: 1}}, groups("1"))
	}
}

// TestP13_1AllOfThreeNodes has each set of edges between three nodes.
func TestP13_1AllOfThreeNodes(t *testing.T) {
	for bits := range 1 << 9 {
		check(t, "a", between(3, bits))
	}
}

// TestP13_1AllOfFourNodes has each set of edges between four nodes, but those from one to itself.
func TestP13_1AllOfFourNodes(t *testing.T) {
	for bits := range 1 << 16 {
		if bits&0b1000010000100001 == 0 {
			check(t, "a", between(4, bits))
		}
	}
}

func TestP13_1Drawn(t *testing.T) {
	r := rand.New(rand.NewSource(1301))
	found, longest, many := 0, 0, 0
	for range 3000 {
		g := drawn(r, 14, 9)
		check(t, "a", g)
		l := toldRings(toldPairs("a", g), nodesOf(g))
		found += len(l)
		if len(l) > 1 {
			many++
		}
		for _, a := range nodesOf(g) {
			for _, b := range nodesOf(g) {
				longest = max(longest, len(toldWay("a", g, a, b)))
			}
		}
	}
	if found < 2000 || longest < 7 || many < 300 {
		t.Errorf("%d rings, %d times more than one, a way of %d nodes", found, many, longest)
	}
}

// TestP13_1DrawnOfMoreNodes has more of them, of far more ways.
func TestP13_1DrawnOfMoreNodes(t *testing.T) {
	r := rand.New(rand.NewSource(1302))
	for range 150 {
		nodes := 10 + r.Intn(20)
		var g []api.Edge
		for range r.Intn(3 * nodes) {
			g = append(g, api.Edge{From: 1 + r.Intn(nodes), Label: "a", To: 1 + r.Intn(nodes)})
		}
		pairs := toldPairs("a", g)
		spans(t, "a", g, pairs)
		rings(t, "a", g, toldRings(pairs, nodesOf(g)))
		for _, p := range pairs {
			leads(t, "a", g, p[0], p[1], toldWay("a", g, p[0], p[1]))
		}
	}
}

// TestP13_1InAnyOrder has the same edges in other orders, and twice.
func TestP13_1InAnyOrder(t *testing.T) {
	r := rand.New(rand.NewSource(1303))
	for range 200 {
		g := drawn(r, 20, 9)
		pairs := toldPairs("a", g)
		for range 8 {
			l := mixed(r, g)
			if r.Intn(2) == 0 {
				l = mixed(r, slices.Concat(g, g))
			}
			spans(t, "a", l, pairs)
			rings(t, "a", l, toldRings(pairs, nodesOf(g)))
			for _, p := range pairs {
				leads(t, "a", l, p[0], p[1], toldWay("a", g, p[0], p[1]))
			}
		}
	}
}
