package join_test

import (
	"math"
	"math/rand"
	"slices"
	"strings"
	"testing"

	"rhizome/api"
	"rhizome/join"
)

// is holds Rows and Result of a pattern to what they are to answer, and to what is told.
func is(t *testing.T, s, edges, rows, result string, counts ...int) {
	t.Helper()
	v, g := pattern(s), graph(edges)
	answers(t, v, g, list(rows), list(result), counts)
	check(t, v, g)
}

func TestP11_1Examples(t *testing.T) {
	is(t, "(x, y) = a(x, z), a(z, y)", "1 a 2, 2 a 3, 1 a 3", "(1 2 3)", "(1 3)", 1)
	is(t, "(x) = a(x, y)", "1 a 2, 2 a 3, 1 a 3", "(1 2)(1 3)(2 3)", "(1)(2)", 2, 1)
}

func TestP11_1OneAtom(t *testing.T) {
	is(t, "(x, y) = a(x, y)", "1 a 2", "(1 2)", "(1 2)", 1)
	is(t, "(x, y) = a(x, y)", "1 a 1", "(1 1)", "(1 1)", 1)
	is(t, "(x, y) = a(x, y)", "2 a 1, 1 a 2, 1 a 1, 10 a 9", "(1 1)(1 2)(2 1)(10 9)", "(1 1)(1 2)(2 1)(10 9)", 1, 1, 1, 1)
	is(t, "(x) = a(x, y)", "1 a 2", "(1 2)", "(1)", 1)
	is(t, "(y) = a(x, y)", "1 a 2", "(1 2)", "(2)", 1)
	is(t, "(y) = a(x, y)", "1 a 2, 3 a 2, 3 a 1", "(1 2)(3 1)(3 2)", "(1)(2)", 1, 2)
	is(t, "(x, y) = a(x, y)", "1000 a 1, 1 a 1000", "(1 1000)(1000 1)", "(1 1000)(1000 1)", 1, 1)
}

func TestP11_1SharedVariables(t *testing.T) {
	is(t, "(x, y, z) = a(x, y), b(y, z)", "1 a 2, 3 a 2, 2 b 4, 2 b 5, 4 b 6", "(1 2 4)(1 2 5)(3 2 4)(3 2 5)", "(1 2 4)(1 2 5)(3 2 4)(3 2 5)", 1, 1, 1, 1)
	is(t, "(x, z) = a(x, y), b(z, y)", "1 a 2, 3 b 2, 2 b 3", "(1 2 3)", "(1 3)", 1)
	is(t, "(y, z) = a(x, y), b(x, z)", "1 a 2, 1 b 3, 2 b 4", "(1 2 3)", "(2 3)", 1)
	is(t, "(y, z) = a(x, y), b(z, x)", "1 a 2, 3 b 1, 1 b 3", "(1 2 3)", "(2 3)", 1)
	is(t, "(x, y) = a(x, y), b(x, y)", "1 a 2, 2 a 3, 3 a 4, 2 b 3, 4 b 3", "(2 3)", "(2 3)", 1)
	is(t, "(x, y) = a(x, y), b(y, x)", "1 a 2, 2 a 3, 3 a 4, 2 b 3, 4 b 3", "(3 4)", "(3 4)", 1)
	is(t, "(x, y, z) = a(x, y), a(y, z), a(z, x)", "1 a 2, 2 a 3, 3 a 1, 3 a 4, 5 a 5", "(1 2 3)(2 3 1)(3 1 2)(5 5 5)", "(1 2 3)(2 3 1)(3 1 2)(5 5 5)", 1, 1, 1, 1)
	is(t, "(x, w) = a(x, y), b(z, w), c(y, z)", "1 a 2, 1 a 3, 4 b 5, 6 b 7, 2 c 4, 3 c 6, 3 c 4", "(1 2 4 5)(1 3 4 5)(1 3 6 7)", "(1 5)(1 7)", 2, 1)
	is(t, "(x) = a(x, y), a(z, y), a(z, w)", "1 a 2, 3 a 2", "(1 2 1 2)(1 2 3 2)(3 2 1 2)(3 2 3 2)", "(1)(3)", 2, 2)
}

func TestP11_1NoSharedVariables(t *testing.T) {
	is(t, "(x, w) = a(x, y), a(z, w)", "1 a 2, 3 a 4", "(1 2 1 2)(1 2 3 4)(3 4 1 2)(3 4 3 4)", "(1 2)(1 4)(3 2)(3 4)", 1, 1, 1, 1)
	is(t, "(x) = a(x, y), b(z, w)", "1 a 2, 3 b 4, 4 b 3, 5 b 5", "(1 2 3 4)(1 2 4 3)(1 2 5 5)", "(1)", 3)
	is(t, "(x) = a(x, y), b(z, w)", "1 a 2, 2 a 1", "", "")
	is(t, "(w) = a(x, y), b(z, w)", "3 b 4", "", "")
	is(t, "(x, y, z) = a(x, x), b(y, y), c(z, z)", "1 a 1, 2 b 2, 3 c 3, 4 c 4", "(1 2 3)(1 2 4)", "(1 2 3)(1 2 4)", 1, 1)
}

func TestP11_1AVariableTwiceInOneAtom(t *testing.T) {
	is(t, "(x) = a(x, x)", "1 a 2, 2 a 2, 2 a 1, 3 b 3, 3 a 3", "(2)(3)", "(2)(3)", 1, 1)
	is(t, "(x) = a(x, x)", "1 a 2, 2 a 1", "", "")
	is(t, "(x) = a(x, y), a(y, y)", "1 a 2, 2 a 2, 2 a 1, 3 a 1", "(1 2)(2 2)", "(1)(2)", 1, 1)
	is(t, "(y) = a(y, y), a(x, y)", "1 a 2, 2 a 2, 2 a 1, 3 a 1", "(2 1)(2 2)", "(2)", 2)
	is(t, "(z, x) = a(x, y), b(z, z)", "1 a 2, 5 b 6, 5 b 5, 6 b 6, 1 b 2", "(1 2 5)(1 2 6)", "(5 1)(6 1)", 1, 1)
	is(t, "(x) = a(x, x), b(x, x)", "1 a 1, 2 a 2, 2 b 2, 3 b 3, 1 b 2", "(2)", "(2)", 1)
}

func TestP11_1AnAtomTwice(t *testing.T) {
	is(t, "(x) = a(x, y), a(x, y)", "1 a 2, 1 a 3, 2 a 3", "(1 2)(1 3)(2 3)", "(1)(2)", 2, 1)
	is(t, "(x) = a(x, y), b(y, z), a(x, y), b(y, z)", "1 a 2, 1 a 3, 2 b 3, 2 b 4", "(1 2 3)(1 2 4)", "(1)", 2)
	is(t, "(x) = a(x, x), a(x, x), a(x, x)", "1 a 1, 1 a 2, 2 a 2", "(1)(2)", "(1)(2)", 1, 1)
	is(t, "(x) = "+strings.Repeat("a(x, y), ", 7)+"a(x, y)", "1 a 2, 1 a 3, 2 a 3", "(1 2)(1 3)(2 3)", "(1)(2)", 2, 1)
}

func TestP11_1AnEdgeTwice(t *testing.T) {
	is(t, "(x) = a(x, y)", "1 a 2, 1 a 2", "(1 2)", "(1)", 1)
	is(t, "(x) = a(x, x)", "1 a 1, 1 a 1, 1 a 1", "(1)", "(1)", 1)
	is(t, "(x) = a(x, y)", "1 a 2, 2 a 3, 1 a 2, 1 a 3, 2 a 3, 1 a 2", "(1 2)(1 3)(2 3)", "(1)(2)", 2, 1)
	is(t, "(x) = a(x, y), b(y, z)", "2 b 3, 1 a 2, 2 b 3, 1 a 2", "(1 2 3)", "(1)", 1)
	is(t, "(x) = a(x, y), a(z, w)", "1 a 2, 1 a 2", "(1 2 1 2)", "(1)", 1)
	is(t, "(x) = a(x, y), a(y, x)", "1 a 2, 2 a 1, 1 a 2, 2 a 1", "(1 2)(2 1)", "(1)(2)", 1, 1)
}

func TestP11_1OtherLabels(t *testing.T) {
	is(t, "(x) = a(x, y)", "1 b 2, 2 b 1, 1 aa 2, 1 x 2, 3 f 4", "", "")
	is(t, "(x) = a(x, y)", "1 b 2, 1 a 3, 2 b 2, 5 aa 5", "(1 3)", "(1)", 1)
	is(t, "(x) = a(x, y), b(y, z)", "1 a 2, 2 a 3, 1 b 2", "", "")
	is(t, "(x) = ab(x, y)", "1 a 2, 1 b 2, 1 abc 2, 1 ab 3", "(1 3)", "(1)", 1)
	long := strings.Repeat("a", api.MaxName)
	is(t, "(x) = "+long+"(x, y)", "1 "+long+" 2, 1 "+long+"a 3, 1 "+long[1:]+" 4", "(1 2)", "(1)", 1)
	none := []api.Edge{{From: 1, Label: "", To: 2}, {From: 1, Label: "A", To: 2}, {From: 1, Label: "a ", To: 2}, {From: 1, Label: "a\x00", To: 2}, {From: 1, Label: "\xff", To: 2}, {From: 1, Label: "á", To: 2}}
	answers(t, pattern("(x) = a(x, y)"), none, nil, nil, nil)
	answers(t, pattern("(x) = a(x, y)"), append(none, graph("1 a 2")...), list("(1 2)"), list("(1)"), []int{1})
}

// TestP11_1LabelsAndVariables has labels and variables, and the view itself, of the same names.
func TestP11_1LabelsAndVariables(t *testing.T) {
	is(t, "(a) = a(a, b), b(b, a)", "1 a 2, 2 b 1, 2 a 1", "(1 2)", "(1)", 1)
	is(t, "(f) = f(f, x), x(x, f)", "1 f 2, 2 x 1, 2 f 1", "(1 2)", "(1)", 1)
	is(t, "(view, reach) = reach(view, reach)", "1 reach 2, 2 view 1", "(1 2)", "(1 2)", 1)
	is(t, "(xx, x) = a(x, xx), a(xx, xxx)", "1 a 2, 2 a 3", "(1 2 3)", "(2 1)", 1)
}

func TestP11_1NoEdges(t *testing.T) {
	for _, s := range []string{"(x) = a(x, y)", "(x) = a(x, x)", "(x, y) = a(x, z), a(z, y)", "(x) = a(x, y), b(z, w)", "(x) = a(x, x), a(x, x)"} {
		for _, edges := range [][]api.Edge{nil, {}, make([]api.Edge, 0, 4)} {
			answers(t, pattern(s), edges, nil, nil, nil)
			checkHolds(t, pattern(s), edges, tuples(2, []int{0, 1, 2})...)
		}
	}
}

func TestP11_1OutputsInOtherOrders(t *testing.T) {
	is(t, "(y, x) = a(x, y)", "1 a 9, 2 a 8, 3 a 7", "(1 9)(2 8)(3 7)", "(7 3)(8 2)(9 1)", 1, 1, 1)
	is(t, "(z, x, y) = a(x, y), a(y, z)", "1 a 2, 2 a 3, 2 a 1", "(1 2 1)(1 2 3)(2 1 2)", "(1 1 2)(2 2 1)(3 1 2)", 1, 1, 1)
	is(t, "(w, z, y, x) = a(x, y), a(z, w)", "1 a 2, 3 a 4", "(1 2 1 2)(1 2 3 4)(3 4 1 2)(3 4 3 4)", "(2 1 2 1)(2 1 4 3)(4 3 2 1)(4 3 4 3)", 1, 1, 1, 1)
	is(t, "(z) = a(x, y), a(y, z)", "1 a 5, 5 a 4, 2 a 5, 5 a 3", "(1 5 3)(1 5 4)(2 5 3)(2 5 4)", "(3)(4)", 2, 2)
	v := patternOf(nil, pattern("(x) = a(x, y), b(y, z), a(z, w), c(w, v), a(v, u)").Atoms)
	g := graph("1 a 2, 2 b 3, 3 a 4, 4 c 5, 5 a 6, 1 a 7, 7 b 3, 9 c 9")
	for _, v.Out = range outputs(toldVars(v.Atoms)) {
		check(t, v, g)
	}
}

func TestP11_1Counts(t *testing.T) {
	is(t, "(x) = a(x, y), b(x, z)", "1 a 2, 1 a 3, 1 a 4, 1 b 5, 1 b 6, 2 a 1, 2 b 1", "(1 2 5)(1 2 6)(1 3 5)(1 3 6)(1 4 5)(1 4 6)(2 1 1)", "(1)(2)", 6, 1)
	is(t, "(x, z) = a(x, y), a(y, z)", "1 a 2, 1 a 3, 1 a 4, 2 a 5, 3 a 5, 4 a 5, 4 a 6", "(1 2 5)(1 3 5)(1 4 5)(1 4 6)", "(1 5)(1 6)", 3, 1)
	for _, n := range []int{1, 2, 9, 10, 11, 999, 1000} {
		g := slices.Concat(fan(7, "a", n), fan(8, "a", 1), graph("7 b 1, 7 b 2, 7 b 3"))
		got, counts, e := join.Result(pattern("(x) = b(x, y), a(x, z)"), g)
		if e != api.OK || !equal(got, list("(7)")) || !slices.Equal(counts, []int{3 * n}) {
			t.Errorf("of %d: %v, %v, %d", n, got, counts, e)
		}
	}
	got, counts, e := join.Result(pattern("(y) = a(x, y)"), grid("a", 2999))
	if e != api.OK || len(got) != 60 || len(counts) != 60 || counts[0] != 50 || counts[58] != 50 || counts[59] != 49 {
		t.Errorf("%v, %v, %d", got, counts, e)
	}
}

// TestP11_1AnyNumbers has edges between whatever numbers: of any list of edges the rows have what these have.
func TestP11_1AnyNumbers(t *testing.T) {
	is(t, "(y, x) = a(x, y)", "0 a 0, -1 a 0, 1001 a -1", "(-1 0)(0 0)(1001 -1)", "(-1 1001)(0 -1)(0 0)", 1, 1, 1)
	is(t, "(x) = a(x, y), a(y, z)", "0 a 5, 5 a 0, 0 a 0", "(0 0 0)(0 0 5)(0 5 0)(5 0 0)(5 0 5)", "(0)(5)", 3, 2)
	is(t, "(x, z) = a(x, y), b(y, z)", "3 a 0, 4 a 2, 0 b 1, 2 b 0, 1 b 1", "(3 0 1)(4 2 0)", "(3 1)(4 0)", 1, 1)
	v, g := pattern("(y) = a(x, y), a(z, z)"), []api.Edge{{From: math.MinInt, Label: "a", To: math.MaxInt}, {From: math.MaxInt, Label: "a", To: math.MaxInt}}
	for _, row := range check(t, v, g) {
		checkHolds(t, v, g, near(row, nodesOf(g))...)
	}
	if !join.Holds(v, g, api.Tuple{math.MinInt, math.MaxInt, math.MaxInt}) {
		t.Error("the ends of int")
	}
}

func TestP11_1ManyAtomsAndVariables(t *testing.T) {
	var atoms []api.Atom
	var edges []api.Edge
	row := api.Tuple{}
	for i := range api.MaxAtoms {
		atoms = append(atoms, api.Atom{From: names[2*i : 2*i+1], Label: "a", To: names[2*i+1 : 2*i+2]})
		edges = append(edges, api.Edge{From: 1, Label: "a", To: 2})
		row = append(row, 1, 2)
	}
	v := patternOf([]string{"k", "x", "l", "y", "m", "z"}, atoms)
	answers(t, v, edges, []api.Tuple{row}, list("(2 1 1 2 2 1)"), []int{1})
	check(t, v, graph("1 a 2, 2 a 3"))
	way := pattern("(x, u) = a(x, y), a(y, z), a(z, w), a(w, v), a(v, u), a(u, t), a(t, s), a(s, r)")
	check(t, way, graph("1 a 2, 2 a 3, 3 a 4, 4 a 5, 5 a 6, 6 a 7, 7 a 8, 8 a 9"))
	check(t, way, graph("1 a 2, 2 a 1"))
	check(t, way, graph("1 a 2, 2 a 1, 2 a 2"))
	check(t, way, graph("1 a 2, 2 a 1, 2 a 2, 1 a 1"))
}

// bad are views that query.Check refuses, of which each has rows in graph("1 a 2"), if one isn't strict; and reaches.
func bad() []api.View {
	good := pattern("(x) = a(x, y)")
	with := func(change func(v *api.View)) api.View {
		v := good
		v.Out, v.Atoms = slices.Clone(v.Out), slices.Clone(v.Atoms)
		change(&v)
		return v
	}
	out := []api.View{{}, {Name: "r", Kind: api.KReach, Label: "a"}, {Name: "r", Kind: api.KReach}, {Name: "f", Kind: api.KPattern}}
	for _, kind := range []int{math.MinInt, -1, 0, api.KReach, 3, 257, 1<<32 + 1, math.MaxInt} {
		out = append(out, with(func(v *api.View) { v.Kind = kind }))
	}
	for _, s := range []string{"", "F", "f ", "é", "abcdefghijklmnopq"} {
		out = append(out, with(func(v *api.View) { v.Name = s }), with(func(v *api.View) { v.Out[0], v.Atoms[0].From = s, s }),
			with(func(v *api.View) { v.Atoms[0].To = s }), with(func(v *api.View) { v.Atoms[0].Label = s }))
	}
	return append(out,
		with(func(v *api.View) { v.Label = "a" }), with(func(v *api.View) { v.Out = nil }), with(func(v *api.View) { v.Atoms = nil }),
		with(func(v *api.View) { v.Out = []string{"x", "x"} }), with(func(v *api.View) { v.Out = []string{"x", "y", "x"} }),
		with(func(v *api.View) { v.Out = []string{"z"} }), with(func(v *api.View) { v.Out = []string{"x", "a"} }), with(func(v *api.View) { v.Out = []string{"x", ""} }),
		with(func(v *api.View) { v.Atoms = slices.Repeat(v.Atoms, api.MaxAtoms+1) }),
		patternOf([]string{"x", "y", "z", "w", "v", "u", "t"}, pattern("(x) = a(x, y), a(z, w), a(v, u), a(t, x)").Atoms))
}

func TestP11_1ViewsThatAreRefused(t *testing.T) {
	for _, v := range bad() {
		for _, edges := range [][]api.Edge{nil, graph("1 a 2"), graph("1 a 1, 2 a 2"), {{From: 1, To: 2}}, grid("a", 3001)} {
			refused(t, v, edges, api.ErrRange)
			for _, row := range append(tuples(2, []int{1, 2}), nil, api.Tuple{1}, api.Tuple{1, 2, 1}, make(api.Tuple, 7)) {
				if join.Holds(v, edges, row) {
					t.Errorf("Holds of %s, %v", told(v, edges), row)
				}
			}
		}
	}
	most := pattern("(x, y, z, w, v, u) = a(x, y), a(z, w), a(v, u), a(v, u), a(v, u), a(v, u), a(v, u), a(v, u)")
	answers(t, most, graph("1 a 2"), list("(1 2 1 2 1 2)"), list("(1 2 1 2 1 2)"), []int{1})
}

func TestP11_1Holds(t *testing.T) {
	for _, c := range []struct {
		s, edges, rows, none string
	}{
		{"(x) = a(x, y)", "1 a 2, 2 a 3", "(1 2)(2 3)", "()(1)(2)(1 1)(2 1)(1 3)(3 2)(0 0)(-1 2)(1 2 3)(1 2 2)(1 2 0)(1 2 1 2)"},
		{"(y) = a(x, y)", "1 a 2", "(1 2)", "(2)(1)(2 1)"}, // a row has all variables, whatever the outputs
		{"(x) = a(x, x)", "1 a 1, 1 a 2", "(1)", "()(2)(0)(1 1)(1 2)"},
		{"(x, y) = a(x, z), a(z, y)", "1 a 2, 2 a 3, 1 a 3", "(1 2 3)", "(1 3 2)(1 3)(1 2)(2 3)(1 3 3)(1 1 3)(2 2 3)(1 2 2)(1 2 3 3)"},
		{"(x) = a(x, y), b(z, w)", "1 a 2, 3 b 4", "(1 2 3 4)", "(3 4 1 2)(1 2)(1 2 1 2)(1 2 4 3)(2 1 3 4)"},
		{"(x) = a(x, y), a(x, y)", "1 a 2, 1 a 2", "(1 2)", "(1 2 1 2)(2 1)"},
		{"(x) = a(x, y), b(y, x)", "1 a 2, 2 a 1, 2 b 1", "(1 2)", "(2 1)(1 1)"},
		{"(x) = a(y, x)", "1 a 2", "(1 2)", "(2 1)"},
	} {
		v, g := pattern(c.s), graph(c.edges)
		for _, row := range list(c.rows) {
			if !join.Holds(v, g, row) {
				t.Errorf("%s in %s: no %v", c.s, c.edges, row)
			}
		}
		for _, row := range list(c.none) {
			if join.Holds(v, g, row) {
				t.Errorf("%s in %s: %v", c.s, c.edges, row)
			}
		}
		if join.Holds(v, g, nil) {
			t.Errorf("%s in %s: a row of none", c.s, c.edges)
		}
	}
}

// TestP11_1AllSmall has all patterns of up to two atoms of two labels, in all edges between two nodes.
func TestP11_1AllSmall(t *testing.T) {
	all := graph("2 b 2, 1 a 1, 2 a 1, 1 b 2, 2 a 2, 1 b 1, 1 a 2, 2 b 1")
	for _, atoms := range append(shapes(1, "a", "b"), shapes(2, "a", "b")...) {
		outs := outputs(toldVars(atoms))
		for bits := range 1 << len(all) {
			var edges []api.Edge
			for i, e := range all {
				if bits>>i&1 == 1 {
					edges = append(edges, e)
				}
			}
			v := patternOf(outs[bits%len(outs)], atoms)
			check(t, v, edges)
			checkHolds(t, v, edges, tuples(len(toldVars(atoms)), []int{1, 2})...)
		}
	}
}

// TestP11_1AllShapes has all patterns of three atoms of one label, and all outputs of those of two.
func TestP11_1AllShapes(t *testing.T) {
	g := graph("1 a 2, 2 a 3, 3 a 1, 3 a 3, 2 a 1, 4 a 2, 4 b 4")
	for _, atoms := range shapes(3, "a") {
		v := patternOf(toldVars(atoms)[:1], atoms)
		check(t, v, g)
		checkHolds(t, v, g, tuples(len(toldVars(atoms)), []int{1, 3, 4})...)
	}
	for _, atoms := range shapes(2, "a", "b") {
		for _, out := range outputs(toldVars(atoms)) {
			check(t, patternOf(out, atoms), g)
		}
	}
}

func TestP11_1Drawn(t *testing.T) {
	r := rand.New(rand.NewSource(1101))
	rows := 0
	for range 6000 {
		v, g := drawnPattern(r, 4, 5), drawnEdges(r, 24)
		l := check(t, v, g)
		rows += len(l)
		for _, row := range some(r, 3, l) {
			checkHolds(t, v, g, near(row, nodesOf(g))...)
		}
		checkHolds(t, v, g, some(r, 9, tuples(len(toldVars(v.Atoms)), nodesOf(g)))...)
	}
	if rows < 5000 {
		t.Errorf("%d rows", rows)
	}
}

func TestP11_1DrawnOfManyAtoms(t *testing.T) {
	r := rand.New(rand.NewSource(1102))
	for range 1500 {
		v, g := drawnPattern(r, api.MaxAtoms, 5), drawnEdges(r, 16)
		for _, row := range some(r, 2, check(t, v, g)) {
			checkHolds(t, v, g, near(row, nodesOf(g))...)
		}
	}
}
