package net_test

import (
	"fmt"
	"math"
	"slices"
	"strings"
	"testing"

	"rhizome/api"
	"rhizome/net"
)

// lists tells numbers.
func lists(n ...int) []int { return n }

func TestP12_1Examples(t *testing.T) {
	k := made(t, pattern("(x) = a(x, y)"), graph("1 a 2"))
	k.is(t, "(1)", lists(1), lists(1))
	k.done(t, "1 a 3", true, "", "")
	k.is(t, "(1)", lists(2), lists(2))
	k.done(t, "1 a 2", false, "", "")
	k.is(t, "(1)", lists(1), lists(1))
	k.done(t, "1 a 3", false, "", "(1)")
	k.is(t, "", nil, lists(0))
}

func TestP12_1NewOfNoEdges(t *testing.T) {
	for _, edges := range [][]api.Edge{nil, {}} {
		for _, s := range []string{"(x) = a(x, y)", "(x) = a(x, x)", "(x, y) = a(x, z), a(z, y)", "(x) = a(x, y), b(z, w), a(x, w)"} {
			v := pattern(s)
			k := made(t, v, edges)
			k.is(t, "", nil, make([]int, len(v.Atoms)))
		}
	}
	k := made(t, pattern("(x, y) = a(x, z), b(z, y)"), nil)
	k.done(t, "1 a 2", true, "", "")
	k.is(t, "", nil, lists(1, 0))
	k.done(t, "2 b 3", true, "(1 3)", "")
	k.is(t, "(1 3)", lists(1), lists(1, 1))
}

func TestP12_1NewOfManyEdges(t *testing.T) {
	k := made(t, pattern("(x, y) = a(x, z), a(z, y)"), graph("1 a 2, 2 a 3, 1 a 3"))
	k.is(t, "(1 3)", lists(1), lists(3, 1))
	k = made(t, pattern("(x) = a(x, y)"), graph("1 a 2, 2 a 3, 1 a 3, 9 b 9"))
	k.is(t, "(1)(2)", lists(2, 1), lists(3))
	k = made(t, pattern("(y, x) = a(x, y)"), graph("1000 a 1, 1 a 1000, 7 a 7"))
	k.is(t, "(1 1000)(7 7)(1000 1)", lists(1, 1, 1), lists(3))
	made(t, pattern("(x) = a(x, y), b(y, z)"), append(grid("a", 1000), grid("b", 1000)...))
}

func TestP12_1AnEdgeTwiceAtNew(t *testing.T) {
	k := made(t, pattern("(x) = a(x, y)"), graph("1 a 2, 1 a 2, 2 a 1, 1 a 2, 4 b 4, 4 b 4"))
	k.is(t, "(1)(2)", lists(1, 1), lists(2))
	k.refused(t, graph("1 a 2"), true, api.ErrTwice)
	k.done(t, "1 a 2", false, "", "(1)")
	k.refused(t, graph("1 a 2"), false, api.ErrNone)
	k.done(t, "4 b 4", false, "", "")
	k.refused(t, graph("4 b 4"), false, api.ErrNone)
	k.done(t, "1 a 2", true, "(1)", "")
	made(t, pattern("(x) = a(x, y)"), slices.Concat(grid("a", 3000), grid("a", 3000), grid("a", 3000)))
}

func TestP12_1OneEdge(t *testing.T) {
	k := made(t, pattern("(x, y) = a(x, z), b(z, y)"), graph("1 a 2, 2 b 3"))
	k.done(t, "4 a 2", true, "(4 3)", "")
	k.done(t, "2 b 5", true, "(1 5)(4 5)", "")
	k.is(t, "(1 3)(1 5)(4 3)(4 5)", lists(1, 1, 1, 1), lists(2, 4))
	k.done(t, "6 a 7", true, "", "")
	k.is(t, "(1 3)(1 5)(4 3)(4 5)", lists(1, 1, 1, 1), lists(3, 4))
	k.done(t, "1 a 2", false, "", "(1 3)(1 5)")
	k.done(t, "2 b 5", false, "", "(4 5)")
	k.done(t, "2 b 3", false, "", "(4 3)")
	k.is(t, "", nil, lists(2, 0))
	k.done(t, "7 b 6", true, "(6 6)", "")
	k.done(t, "2 b 4", true, "(4 4)", "")
}

func TestP12_1SeveralEdges(t *testing.T) {
	k := made(t, pattern("(x, y) = a(x, z), b(z, y)"), graph("1 a 2, 2 b 3"))
	k.done(t, "4 a 2, 2 b 5, 6 a 7, 7 b 8", true, "(1 5)(4 3)(4 5)(6 8)", "")
	k.is(t, "(1 3)(1 5)(4 3)(4 5)(6 8)", lists(1, 1, 1, 1, 1), lists(3, 5))
	k.done(t, "2 b 3, 1 a 2, 6 a 7", false, "", "(1 3)(1 5)(4 3)(6 8)")
	k.is(t, "(4 5)", lists(1), lists(1, 1))
	k.done(t, "7 b 8, 4 a 2, 2 b 5", false, "", "(4 5)")
	k.is(t, "", nil, lists(0, 0))
	k.done(t, "1 a 1, 1 b 1", true, "(1 1)", "")
}

func TestP12_1OneLabelAtSeveralAtoms(t *testing.T) {
	k := made(t, pattern("(x, y) = a(x, z), a(z, y)"), nil)
	k.done(t, "1 a 1", true, "(1 1)", "")
	k.done(t, "1 a 2", true, "(1 2)", "")
	k.is(t, "(1 1)(1 2)", lists(1, 1), lists(2, 2))
	k.done(t, "2 a 1", true, "(2 1)(2 2)", "")
	k.is(t, "(1 1)(1 2)(2 1)(2 2)", lists(2, 1, 1, 1), lists(3, 5))
	k.done(t, "1 a 1", false, "", "(1 2)(2 1)")
	k.is(t, "(1 1)(2 2)", lists(1, 1), lists(2, 2))
	k.done(t, "1 a 2, 2 a 1", false, "", "(1 1)(2 2)")
	k.done(t, "2 a 3, 3 a 4, 4 a 2", true, "(2 4)(3 2)(4 3)", "")

	k = made(t, pattern("(x) = a(x, y), a(y, z), a(z, x)"), graph("1 a 2, 2 a 3"))
	k.done(t, "3 a 1", true, "(1)(2)(3)", "")
	k.is(t, "(1)(2)(3)", lists(1, 1, 1), lists(3, 3, 3))
	k.done(t, "2 a 2", true, "", "")
	k.is(t, "(1)(2)(3)", lists(1, 2, 1), lists(4, 6, 4))
	k.done(t, "2 a 3", false, "", "(1)(3)")

	k = made(t, pattern("(x) = a(x, y), a(x, y)"), graph("1 a 2"))
	k.done(t, "1 a 3, 3 a 1", true, "(3)", "")
	k.is(t, "(1)(3)", lists(2, 1), lists(3, 3))
	k.done(t, "1 a 2, 1 a 3", false, "", "(1)")
}

func TestP12_1NoSharedVariables(t *testing.T) {
	k := made(t, pattern("(x, w) = a(x, y), b(z, w)"), graph("1 a 2"))
	k.done(t, "3 b 4", true, "(1 4)", "")
	k.done(t, "5 a 6, 7 b 4, 7 b 8", true, "(1 8)(5 4)(5 8)", "")
	k.is(t, "(1 4)(1 8)(5 4)(5 8)", lists(2, 1, 2, 1), lists(2, 6))
	k.done(t, "1 a 2", false, "", "(1 4)(1 8)")
	k.done(t, "3 b 4, 7 b 8", false, "", "(5 8)")
	k.is(t, "(5 4)", lists(1), lists(1, 1))
}

func TestP12_1AVariableTwiceInOneAtom(t *testing.T) {
	k := made(t, pattern("(x) = a(x, x)"), graph("1 a 2, 2 a 2"))
	k.is(t, "(2)", lists(1), lists(1))
	k.done(t, "2 a 1, 3 a 4", true, "", "")
	k.done(t, "1 a 1, 3 a 5", true, "(1)", "")
	k.is(t, "(1)(2)", lists(1, 1), lists(2))
	k.done(t, "1 a 2, 2 a 1", false, "", "")
	k.done(t, "2 a 2", false, "", "(2)")

	k = made(t, pattern("(x) = a(x, y), a(y, y)"), graph("1 a 2"))
	k.is(t, "", nil, lists(1, 0))
	k.done(t, "2 a 2", true, "(1)(2)", "")
	k.is(t, "(1)(2)", lists(1, 1), lists(2, 2))
	k.done(t, "2 a 2", false, "", "(1)(2)")

	k = made(t, pattern("(y) = b(y, y), a(x, y)"), graph("1 a 2, 2 b 3"))
	k.done(t, "2 b 2, 3 b 3", true, "(2)", "")
	k.is(t, "(2)", lists(1), lists(2, 1))
}

// TestP12_1ACountUpAndDown has a tuple whose count goes from one to two and back, and to nothing.
func TestP12_1ACountUpAndDown(t *testing.T) {
	k := made(t, pattern("(x, z) = a(x, y), b(y, z)"), graph("1 a 2, 1 a 3, 2 b 4"))
	k.is(t, "(1 4)", lists(1), lists(2, 1))
	k.done(t, "3 b 4", true, "", "")
	k.is(t, "(1 4)", lists(2), lists(2, 2))
	k.done(t, "2 b 4", false, "", "")
	k.is(t, "(1 4)", lists(1), lists(2, 1))
	k.done(t, "2 b 4, 2 b 5", true, "(1 5)", "")
	k.is(t, "(1 4)(1 5)", lists(2, 1), lists(2, 3))
	k.done(t, "1 a 2", false, "", "(1 5)")
	k.is(t, "(1 4)", lists(1), lists(1, 1))
	k.done(t, "1 a 3", false, "", "(1 4)")
	k.is(t, "", nil, lists(0, 0))
	k.done(t, "1 a 2, 1 a 3", true, "(1 4)(1 5)", "")
	k.is(t, "(1 4)(1 5)", lists(2, 1), lists(2, 3))
	k.done(t, "2 b 4, 3 b 4", false, "", "(1 4)") // from two to nothing at once
	k.done(t, "2 b 4, 3 b 4", true, "(1 4)", "")  // and to two at once
}

// TestP12_1BothEnds has deltas with tuples ahead of and behind all others.
func TestP12_1BothEnds(t *testing.T) {
	k := made(t, pattern("(x, y) = a(x, y)"), graph("5 a 5, 5 a 6"))
	k.done(t, "9 a 1, 5 a 7, 1 a 9, 5 a 1", true, "(1 9)(5 1)(5 7)(9 1)", "")
	k.done(t, "9 a 1, 1 a 9", false, "", "(1 9)(9 1)")
	k.done(t, "5 a 7, 5 a 6, 5 a 1, 5 a 5", false, "", "(5 1)(5 5)(5 6)(5 7)")
	k.done(t, "5 a 5", true, "(5 5)", "")
	k.done(t, "1000 a 1000, 1 a 1, 5 a 4, 5 a 1000", true, "(1 1)(5 4)(5 1000)(1000 1000)", "")
}

func TestP12_1AnEmptyListOfEdges(t *testing.T) {
	full := pattern("(x) = a(x, y)")
	for _, k := range []*kept{made(t, full, nil), made(t, full, graph("1 a 2, 2 b 2")), made(t, full, grid("a", 3000))} {
		for _, edges := range [][]api.Edge{nil, {}} {
			k.refused(t, edges, true, api.OK)
			k.refused(t, edges, false, api.OK)
		}
	}
}

// TestP12_1LabelsThatNoAtomHas has edges that mean nothing to the pattern, and are kept as others are.
func TestP12_1LabelsThatNoAtomHas(t *testing.T) {
	k := made(t, pattern("(x) = a(x, y), b(y, x)"), graph("1 c 2, 1 a 2, 2 b 1"))
	k.is(t, "(1)", lists(1), lists(1, 1))
	k.refused(t, graph("1 c 2"), true, api.ErrTwice)
	k.done(t, "2 c 1, 1 x 2, 1 aa 2, 1 f 2, 2 c 2", true, "", "")
	k.refused(t, graph("1 aa 2"), true, api.ErrTwice)
	k.refused(t, graph("3 c 3, 3 c 3"), true, api.ErrTwice)
	k.refused(t, graph("3 c 3"), false, api.ErrNone)
	k.done(t, "1 c 2, 1 aa 2", false, "", "")
	k.refused(t, graph("1 c 2"), false, api.ErrNone)
	k.refused(t, graph("2 c 1, 2 c 1"), false, api.ErrTwice)
	k.refused(t, graph("2 c 1, 1 c 2"), false, api.ErrNone)
	k.done(t, "1 c 2", true, "", "")
	k.done(t, "2 c 1, 1 x 2, 1 f 2, 1 c 2, 2 c 2", false, "", "")
	k.is(t, "(1)", lists(1), lists(1, 1))
}

// TestP12_1AnyEdges has edges that are none of a graph: any list of them is taken.
func TestP12_1AnyEdges(t *testing.T) {
	odd := []api.Edge{{}, {From: 0, Label: "a", To: 0}, {From: -1, Label: "a", To: 0}, {From: 0, Label: "a", To: -1}, {From: math.MinInt, Label: "a", To: math.MaxInt},
		{From: math.MaxInt, Label: "a", To: math.MinInt}, {From: 1001, Label: "a", To: 256}, {From: 256, Label: "a", To: 1}, {From: 1, Label: "", To: 1}, {From: 1, Label: "A", To: 1},
		{From: 1, Label: "\xff", To: 1}, {From: 1, Label: "a\x00", To: 1}, {From: 1, Label: strings.Repeat("a", 300), To: 2}}
	for _, s := range []string{"(x, y) = a(x, y)", "(x) = a(x, x)", "(x, z) = a(x, y), a(y, z)", "(x) = a(x, y), a(z, z)"} {
		k := made(t, pattern(s), odd)
		for _, e := range odd {
			k.refused(t, []api.Edge{e}, true, api.ErrTwice)
			k.refused(t, []api.Edge{e, e}, false, api.ErrTwice)
			k.refused(t, []api.Edge{e}, false, api.OK)
			k.refused(t, []api.Edge{e}, false, api.ErrNone)
		}
		k.is(t, "", nil, make([]int, len(k.view.Atoms)))
		k.refused(t, odd, true, api.OK)
		k.refused(t, odd, false, api.OK)
		for _, e := range odd {
			k.refused(t, []api.Edge{e, e}, true, api.ErrTwice)
			k.refused(t, []api.Edge{e}, true, api.OK)
		}
	}
}

func TestP12_1WithAddErrTwice(t *testing.T) {
	k := made(t, pattern("(x) = a(x, y)"), graph("1 a 2, 3 b 4"))
	for _, edges := range []string{"1 a 2", "3 b 4", "5 a 6, 1 a 2", "1 a 2, 5 a 6", "5 a 6, 5 a 6", "5 a 6, 7 a 8, 5 a 6", "5 b 6, 7 a 8, 7 a 8, 9 a 9", "1 a 2, 1 a 2", "5 a 6, 7 a 8, 3 b 4"} {
		k.refused(t, graph(edges), true, api.ErrTwice)
		k.is(t, "(1)", lists(1), lists(1))
	}
	k.done(t, "5 a 6, 5 b 6, 7 a 8, 9 a 9, 2 a 1, 1 b 2", true, "(2)(5)(7)(9)", "") // nothing of those was kept
}

func TestP12_1WithoutAddErrNoneAndErrTwice(t *testing.T) {
	k := made(t, pattern("(x) = a(x, y)"), graph("1 a 2, 3 a 4, 5 b 6"))
	for _, c := range []struct {
		edges string
		want  api.Errno
	}{
		{"2 a 1", api.ErrNone}, {"1 b 2", api.ErrNone}, {"5 a 6", api.ErrNone}, {"7 c 7", api.ErrNone}, {"1 a 2, 1 a 3", api.ErrNone}, {"3 a 4, 5 b 6, 1 a 2, 9 a 9", api.ErrNone},
		{"1 a 2, 1 a 2", api.ErrTwice}, {"1 a 2, 3 a 4, 1 a 2", api.ErrTwice}, {"5 b 6, 5 b 6", api.ErrTwice},
		{"9 a 9, 9 a 9", api.ErrNone}, // it isn't there at its first place
		// of two wrong ones the first is told
		{"1 a 2, 1 a 2, 9 a 9", api.ErrTwice}, {"1 a 2, 9 a 9, 1 a 2", api.ErrNone}, {"9 a 9, 1 a 2, 1 a 2", api.ErrNone},
		{"1 a 2, 3 a 4, 3 a 4, 1 a 2, 8 a 8", api.ErrTwice}, {"1 a 2, 3 a 4, 5 b 6, 5 b 6, 6 b 5", api.ErrTwice},
	} {
		k.refused(t, graph(c.edges), false, c.want)
		k.is(t, "(1)(3)", lists(1, 1), lists(2))
	}
	k.done(t, "5 b 6, 3 a 4, 1 a 2", false, "", "(1)(3)")
	for _, edges := range []string{"1 a 2", "3 a 4", "5 b 6", "1 a 2, 1 a 2"} {
		k.refused(t, graph(edges), false, api.ErrNone)
	}
}

// bad are views that are no patterns.
func bad() []api.View {
	var out []api.View
	with := func(change func(v *api.View)) {
		v := pattern("(x, y) = a(x, y), b(y, z)")
		change(&v)
		out = append(out, v)
	}
	with(func(v *api.View) { *v = api.View{} })
	with(func(v *api.View) { *v = api.View{Name: "r", Kind: api.KReach, Label: "a"} })
	for _, kind := range []int{0, api.KReach, 3, -1} {
		with(func(v *api.View) { v.Kind = kind })
	}
	for _, name := range []string{"", "A", "f1", "é", strings.Repeat("f", api.MaxName+1)} {
		with(func(v *api.View) { v.Name = name })
		with(func(v *api.View) { v.Out[1] = name })
		with(func(v *api.View) { v.Atoms[1].To = name })
		with(func(v *api.View) { v.Atoms[0].Label = name })
	}
	with(func(v *api.View) { v.Label = "a" })
	with(func(v *api.View) { v.Out = nil })
	with(func(v *api.View) { v.Atoms = nil })
	with(func(v *api.View) { v.Out[1] = "x" })
	with(func(v *api.View) { v.Out[1] = "w" })
	with(func(v *api.View) { v.Atoms = slices.Repeat(v.Atoms, 5) })
	with(func(v *api.View) {
		*v = patternOf(strings.Split("xyzwvut", ""), pattern("(x) = a(x, y), a(z, w), a(v, u), a(t, x)").Atoms)
	})
	return out
}

func TestP12_1ViewsThatAreNoPatterns(t *testing.T) {
	for _, v := range bad() {
		for _, edges := range [][]api.Edge{nil, graph("1 a 2, 2 b 3"), grid("a", 3001)} { // ErrRange is told ahead of ErrFull
			if n, e := net.New(v, edges); n != nil || e != api.ErrRange {
				t.Errorf("New of %v: %v, %d", v, n, e)
			}
		}
	}
}

// TestP12_1TheGreatestPattern has as many atoms, outputs and variables as there may be.
func TestP12_1TheGreatestPattern(t *testing.T) {
	var atoms []string
	for i := range api.MaxAtoms {
		atoms = append(atoms, fmt.Sprintf("a(%c, %c)", names[2*i], names[2*i+1]))
	}
	k := made(t, pattern("(k, x, l, y, w, z) = "+strings.Join(atoms, ", ")), graph("1 a 2"))
	k.is(t, "(2 1 1 2 2 1)", lists(1), slices.Repeat(lists(1), 8))
	k.refused(t, graph("3 a 1"), true, api.OK)
	if got := k.net.Rows(); got != 256 {
		t.Errorf("Rows: %d", got)
	}
	k.refused(t, graph("4 a 4"), true, api.ErrFull) // 3 to the 8th rows
	k.refused(t, graph("1 a 2"), false, api.OK)
	k.is(t, "(1 3 3 1 1 3)", lists(1), slices.Repeat(lists(1), 8))
	k = made(t, pattern("(x) = "+strings.TrimSuffix(strings.Repeat("a(x, y), ", 8), ", ")), grid("a", 3000))
	k.refused(t, grid("a", 3001)[3000:], true, api.ErrFull)
	k.refused(t, grid("a", 1000), false, api.OK)
}

func TestP12_1CountOfOthers(t *testing.T) {
	k := made(t, pattern("(x, y) = a(x, z), b(z, y)"), graph("1 a 2, 2 b 3, 4 a 5, 1 a 6, 6 b 3"))
	k.is(t, "(1 3)", lists(2), lists(3, 2))
	others := append(list("()(0)(1)(3)(3 1)(1 2)(1 3 0)(1 3 3)(1 2 3)(0 0)(4 5)(1 3 1 3)(-1 3)(1 4)"), nil, make(api.Tuple, 23), make(api.Tuple, 1000), slices.Repeat(api.Tuple{1, 3}, 50))
	for _, u := range others {
		if got := k.net.Count(u); got != 0 {
			t.Errorf("Count of %v: %d", u, got)
		}
	}
	k.done(t, "1 a 2, 1 a 6", false, "", "(1 3)")
	for _, u := range append(others, api.Tuple{1, 3}) {
		if got := k.net.Count(u); got != 0 {
			t.Errorf("Count of %v: %d", u, got)
		}
	}
	one := made(t, pattern("(x) = a(x, y)"), graph("0 a 1, 256 a 1"))
	for u, want := range map[int]int{0: 1, 256: 1, 1: 0, -1: 0, 65536: 0, math.MinInt: 0} {
		if got := one.net.Count(api.Tuple{u}); got != want {
			t.Errorf("Count of %d: %d", u, got)
		}
	}
}

// TestP12_1OutputsInEachOrder has outputs that stand otherwise than the variables do.
func TestP12_1OutputsInEachOrder(t *testing.T) {
	for _, c := range []struct{ out, result, more string }{
		{"x, y, z", "(1 2 3)", "(1 4 3)"}, {"z, y, x", "(3 2 1)", "(3 4 1)"}, {"y, x", "(2 1)", "(4 1)"}, {"z, x", "(3 1)", ""}, {"y", "(2)", "(4)"}, {"z", "(3)", ""},
	} {
		k := made(t, pattern("("+c.out+") = a(x, y), b(y, z)"), graph("1 a 2, 2 b 3, 4 b 3"))
		k.is(t, c.result, lists(1), lists(1, 1))
		k.done(t, "1 a 4", true, c.more, "")
		k.done(t, "1 a 4", false, "", c.more)
	}
}
