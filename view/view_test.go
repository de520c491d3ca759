package view_test

import (
	"math"
	"slices"
	"strings"
	"testing"

	"rhizome/api"
	"rhizome/view"
)

// kinds are views of both kinds, of the label a; some have other labels, too.
func kinds() []api.View {
	return []api.View{of("(x, y) = a(x, y)"), of("(x) = a(x, x)"), of("(x, z) = a(x, y), a(y, z)"), of("(z) = a(x, y), b(y, z)"), of("= reach a")}
}

func TestP18_1Examples(t *testing.T) {
	k := made(t, of("= reach a"), graph("1 a 2"))
	k.is(t, "(1 2)")
	d, e := k.standing.Do(graph("1 a 2"), graph("1 a 3"))
	if e != api.OK || !equalDeltas(d, api.Delta{Add: list("(1 3)"), Del: list("(1 2)")}) {
		t.Errorf("%v, %d", d, e)
	}
	k.edges = graph("1 a 3")
	k.is(t, "(1 3)")
}

func TestP18_1NewOfNoEdges(t *testing.T) {
	for _, edges := range [][]api.Edge{nil, {}} {
		for _, v := range kinds() {
			k := made(t, v, edges)
			k.is(t, "")
			k.refused(t, edges, edges, api.OK)
			k.is(t, "")
		}
	}
	k := made(t, of("(x, y) = a(x, z), b(z, y)"), nil)
	k.done(t, "", "1 a 2", "", "")
	k.done(t, "", "2 b 3", "(1 3)", "")
}

func TestP18_1OneEdge(t *testing.T) {
	for s, want := range map[string]string{"(x) = a(x, y)": "(1)", "(y, x) = a(x, y)": "(2 1)", "(x) = a(x, x)": "", "(x) = b(x, y)": "", "(y) = a(x, y), a(x, z)": "(2)", "= reach a": "(1 2)", "= reach b": ""} {
		k := made(t, of(s), graph("1 a 2"))
		k.is(t, want)
		k.done(t, "1 a 2", "", "", want)
		k.done(t, "", "1 a 2", want, "")
	}
}

func TestP18_1SeveralEdges(t *testing.T) {
	edges := graph("1 a 2, 2 a 3, 1 a 3, 3 b 4, 3 a 3, 9 c 1")
	for s, want := range map[string]string{
		"(x) = a(x, y)": "(1)(2)(3)", "(x, y) = a(x, z), a(z, y)": "(1 3)(2 3)(3 3)", "(x) = a(x, x)": "(3)", "(w, x) = a(x, y), b(y, w)": "(4 1)(4 2)(4 3)",
		"(x, z) = b(x, y), c(z, w)": "(3 9)", "(x) = c(x, y), a(y, z), b(z, w)": "(9)", "= reach a": "(1 2)(1 3)(2 3)(3 3)", "= reach b": "(3 4)", "= reach other": "",
	} {
		made(t, of(s), edges).is(t, want)
		k := made(t, of(s), nil)
		k.refused(t, nil, edges, api.OK)
		k.is(t, want)
		k.refused(t, edges, nil, api.OK)
		k.is(t, "")
	}
}

// TestP18_1OtherLabels has edges that mean nothing to the view, and are there as others are.
func TestP18_1OtherLabels(t *testing.T) {
	for _, v := range []api.View{of("(x, y) = a(x, y)"), of("(x, y) = a(x, y), a(x, z)"), of("= reach a")} {
		k := made(t, v, graph("1 a 2, 1 b 2, 2 aa 3, 2 f 3, 3 x 3"))
		k.is(t, "(1 2)")
		k.refused(t, nil, graph("1 b 2"), api.ErrTwice)
		k.refused(t, nil, graph("9 b 9, 2 aa 3"), api.ErrTwice)
		k.refused(t, nil, graph("5 b 6, 5 b 6"), api.ErrTwice)
		k.refused(t, graph("5 b 6"), nil, api.ErrNone)
		k.refused(t, graph("1 b 2, 1 b 2"), nil, api.ErrTwice)
		k.done(t, "", "5 b 6, 2 b 3, 6 aa 7", "", "")
		k.refused(t, nil, graph("5 b 6"), api.ErrTwice)
		k.done(t, "1 b 2, 2 f 3", "", "", "")
		k.refused(t, graph("1 b 2"), nil, api.ErrNone)
		k.done(t, "5 b 6, 1 a 2, 3 x 3", "1 b 2, 3 a 4, 2 f 3", "(3 4)", "(1 2)")
		k.done(t, "2 f 3", "2 f 3", "", "")
		k.is(t, "(3 4)")
	}
	long := strings.Repeat("z", api.MaxName)
	for _, s := range []string{"(x, y) = " + long + "(x, y)", "= reach " + long} {
		k := made(t, of(s), graph("1 "+long+" 2, 2 "+long+"z 3, 2 "+long[1:]+" 4"))
		k.is(t, "(1 2)")
		k.done(t, "1 "+long+" 2, 2 "+long+"z 3", "8 "+long+" 9, 1 "+long[1:]+" 4", "(8 9)", "(1 2)")
	}
}

func TestP18_1AnEdgeTwice(t *testing.T) {
	edges := graph("1 a 2, 1 a 2, 2 a 3, 1 a 2, 4 b 4, 4 b 4, 5 a 5, 5 a 5")
	for s, want := range map[string]string{"(x) = a(x, y)": "(1)(2)(5)", "(x, z) = a(x, y), a(y, z)": "(1 3)(5 5)", "(x) = b(x, x)": "(4)", "= reach a": "(1 2)(1 3)(2 3)(5 5)", "= reach b": "(4 4)"} {
		k := made(t, of(s), edges)
		k.is(t, want)
		k.refused(t, nil, graph("1 a 2"), api.ErrTwice)
		k.refused(t, nil, graph("4 b 4"), api.ErrTwice)
		k.refused(t, graph("1 a 2, 4 b 4"), nil, api.OK)
		k.refused(t, graph("1 a 2"), nil, api.ErrNone)
		k.refused(t, graph("4 b 4"), nil, api.ErrNone)
		k.refused(t, graph("5 a 5, 2 a 3"), nil, api.OK)
		k.is(t, "")
	}
	made(t, of("(x) = a(x, y)"), slices.Repeat(apart("a", 3000, 1), 3)).counts(t, 3000)
	made(t, of("= reach a"), slices.Repeat(ring(63, 1), 5)).counts(t, 3969)
}

func TestP18_1OnlyGoOrOnlyCome(t *testing.T) {
	k := made(t, of("(x, y) = a(x, z), b(z, y)"), graph("1 a 2, 2 b 3"))
	k.is(t, "(1 3)")
	k.done(t, "", "4 a 2, 2 b 5", "(1 5)(4 3)(4 5)", "")
	k.done(t, "2 b 3", "", "", "(1 3)(4 3)")
	k.done(t, "1 a 2, 4 a 2", "", "", "(1 5)(4 5)")
	k.done(t, "", "6 a 2", "(6 5)", "")
	k = made(t, of("= reach a"), graph("1 a 2"))
	k.done(t, "", "2 a 3, 4 a 1", "(1 3)(2 3)(4 1)(4 2)(4 3)", "")
	k.done(t, "1 a 2", "", "", "(1 2)(1 3)(4 2)(4 3)")
	k.done(t, "4 a 1, 2 a 3", "", "", "(2 3)(4 1)")
	k.done(t, "", "7 a 7", "(7 7)", "")
}

func TestP18_1GoAndCome(t *testing.T) {
	k := made(t, of("(x, y) = a(x, z), b(z, y)"), graph("1 a 2, 2 b 3"))
	k.done(t, "1 a 2", "4 a 2", "(4 3)", "(1 3)")
	k.done(t, "2 b 3", "1 a 2, 2 b 5", "(1 5)(4 5)", "(4 3)")
	k.done(t, "4 a 2, 2 b 5", "2 b 3, 3 b 3, 9 a 3", "(1 3)(9 3)", "(1 5)(4 5)")
	k.done(t, "2 b 3, 3 b 3, 1 a 2, 9 a 3", "7 a 7, 7 b 7", "(7 7)", "(1 3)(9 3)")
	k = made(t, of("(x) = a(x, y)"), graph("1 a 2, 1 a 3, 2 a 1"))
	k.done(t, "1 a 2, 2 a 1", "3 a 1", "(3)", "(2)") // 1 by another row still
	k.done(t, "1 a 3", "1 a 9", "", "")              // and by one that came
	k = made(t, of("= reach a"), graph("1 a 2, 2 a 3, 3 a 4"))
	k.done(t, "2 a 3", "3 a 1", "(3 1)(3 2)", "(1 3)(1 4)(2 3)(2 4)")
	k.done(t, "3 a 4", "2 a 3, 4 a 3", "(1 1)(1 3)(2 1)(2 2)(2 3)(3 3)(4 1)(4 2)(4 3)", "(3 4)")
	k.done(t, "1 a 2", "1 a 4, 4 a 2", "(1 4)(2 4)(3 4)(4 4)", "") // round by another node
}

// TestP18_1ContentStays has steps that change edges, and nothing in the content.
func TestP18_1ContentStays(t *testing.T) {
	k := made(t, of("(x) = a(x, y)"), graph("1 a 2"))
	k.done(t, "", "1 a 3, 1 a 4", "", "")
	k.done(t, "1 a 2, 1 a 4", "", "", "")
	k.done(t, "1 a 3", "1 a 2", "", "")
	k.done(t, "", "", "", "")
	k.is(t, "(1)")
	k = made(t, of("= reach a"), graph("1 a 2, 2 a 3"))
	k.done(t, "", "1 a 3", "", "")
	k.done(t, "1 a 3", "", "", "")
	k.done(t, "", "1 a 3, 3 a 4", "(1 4)(2 4)(3 4)", "")
	k.done(t, "2 a 3", "2 a 4", "", "(2 3)")
	k.done(t, "1 a 3, 2 a 4", "2 a 3", "(2 3)", "")
	k.done(t, "", "", "", "")
	k.is(t, "(1 2)(1 3)(1 4)(2 3)(2 4)(3 4)")
}

// TestP18_1GoneAndBack has edges in gone and in come: they are there behind it, so nothing is new, and nothing gone.
func TestP18_1GoneAndBack(t *testing.T) {
	edges := graph("1 a 2, 2 a 3, 3 a 1, 3 b 3, 4 a 4, 2 b 9, 5 c 5")
	for _, v := range kinds() {
		k := made(t, v, edges)
		was := k.applied
		for i := range edges {
			for n := i; n <= len(edges); n++ {
				k.refused(t, edges[i:n], edges[i:n], api.OK)
				if !equal(k.applied, was) {
					t.Fatalf("%s: %v went and came: %v, was %v", k.told(), edges[i:n], k.applied, was)
				}
			}
		}
		k.refused(t, graph("4 a 4, 1 a 2"), graph("1 a 2, 6 a 6"), api.OK)
		k.refused(t, graph("6 a 6"), graph("6 a 6, 4 a 4"), api.OK)
		k.refused(t, nil, graph("4 a 4"), api.ErrTwice)
		k.refused(t, graph("6 a 6"), nil, api.OK)
		if !equal(k.applied, was) {
			t.Fatalf("%s: %v, was %v", k.told(), k.applied, was)
		}
	}
	k := made(t, of("= reach a"), graph("1 a 2, 2 a 3"))
	k.done(t, "1 a 2, 2 a 3", "2 a 3, 3 a 4", "(2 4)(3 4)", "(1 2)(1 3)")
}

func TestP18_1ErrNone(t *testing.T) {
	for _, v := range []api.View{of("(x, y) = a(x, y)"), of("= reach a")} {
		k := made(t, v, graph("1 a 2, 4 a 5, 7 b 8"))
		for _, gone := range []string{"2 a 1", "1 b 2", "7 a 8", "9 c 9", "1 a 2, 1 a 3", "4 a 5, 7 b 8, 1 a 2, 8 b 7", "8 b 7, 1 a 2",
			"9 a 9, 9 a 9", "1 a 2, 1 a 2, 9 a 9", "9 a 9, 1 a 2, 1 a 2"} { // whatever comes twice beside it
			for _, come := range []string{"", "5 a 6", "1 a 2", "4 a 5", "5 a 6, 5 a 6", "9 a 9", "2 a 1, 1 b 2"} { // or is there still
				k.refused(t, graph(gone), graph(come), api.ErrNone)
			}
		}
		k.is(t, "(1 2)(4 5)")
		k.done(t, "1 a 2", "", "", "(1 2)")
		k.refused(t, graph("1 a 2"), nil, api.ErrNone)
		k.refused(t, graph("1 a 2"), graph("1 a 2"), api.ErrNone)
		k.done(t, "7 b 8, 4 a 5", "", "", "(4 5)")
		for _, gone := range []string{"1 a 2", "4 a 5", "7 b 8"} {
			k.refused(t, graph(gone), nil, api.ErrNone)
		}
	}
}

func TestP18_1ErrTwice(t *testing.T) {
	for _, v := range []api.View{of("(x, y) = a(x, y)"), of("= reach a")} {
		k := made(t, v, graph("1 a 2, 4 a 5, 7 b 8"))
		for _, c := range [][2]string{
			{"1 a 2, 1 a 2", ""}, {"1 a 2, 4 a 5, 1 a 2", ""}, {"7 b 8, 7 b 8", "5 a 6"}, {"1 a 2, 7 b 8, 7 b 8", "1 a 2"}, // in gone
			{"", "8 a 9, 8 a 9"}, {"1 a 2", "8 a 9, 5 a 6, 8 a 9"}, {"1 a 2", "1 a 2, 1 a 2"}, {"", "8 b 9, 8 b 9"}, {"7 b 8", "7 b 8, 8 a 9, 7 b 8"}, // in come
			{"", "1 a 2"}, {"", "7 b 8"}, {"1 a 2", "4 a 5"}, {"1 a 2, 4 a 5", "8 a 9, 1 a 2, 7 b 8"}, {"4 a 5, 7 b 8", "4 a 5, 7 b 8, 1 a 2"}, // there still
			{"1 a 2, 1 a 2", "4 a 5, 4 a 5"},
		} {
			k.refused(t, graph(c[0]), graph(c[1]), api.ErrTwice)
		}
		k.is(t, "(1 2)(4 5)")
		k.done(t, "1 a 2, 4 a 5, 7 b 8", "8 a 9, 1 b 2, 8 b 9, 7 b 8", "(8 9)", "(1 2)(4 5)") // nothing of those was kept
		k.refused(t, nil, graph("7 b 8"), api.ErrTwice)
		k.refused(t, nil, graph("1 b 2"), api.ErrTwice)
		k.refused(t, nil, graph("8 a 9"), api.ErrTwice)
	}
}

// TestP18_1AnErrorChangesNothing has, of each error, a standing view that was refused and one that wasn't asked: they
// tell the same, and go on the same.
func TestP18_1AnErrorChangesNothing(t *testing.T) {
	edges := graph("1 a 2, 2 a 3, 3 a 1, 2 b 4, 9 c 9")
	many := append(graph("3 a 100, 2 b 100"), apart("a", 4000, 101)...)
	for _, c := range []struct {
		gone, come []api.Edge
		want       api.Errno
	}{
		{edges[:3], many, api.ErrFull}, {nil, many, api.ErrFull}, {graph("1 a 2, 9 c 9"), append(graph("1 a 2"), many...), api.ErrFull}, {edges, append(slices.Clone(edges), many...), api.ErrFull},
		{graph("1 a 2, 2 b 4, 9 c 8"), graph("5 a 5"), api.ErrNone}, {append(edges[:4:4], edges[0]), graph("5 a 5, 5 b 5"), api.ErrTwice},
		{graph("1 a 2, 2 b 4"), graph("5 a 5, 3 a 1"), api.ErrTwice}, {graph("1 a 2, 2 b 4"), graph("5 a 5, 2 b 4, 6 b 6, 5 a 5"), api.ErrTwice},
	} {
		for _, v := range kinds() {
			k, as := made(t, v, edges), made(t, v, edges)
			if v.Kind == api.KPattern && v.Atoms[0].From == v.Atoms[0].To && c.want == api.ErrFull {
				continue // of that one nothing is too great here
			}
			for range 2 {
				k.refused(t, c.gone, c.come, c.want)
				if !equal(k.standing.Read(), as.standing.Read()) {
					t.Fatalf("%s: %v", k.told(), k.standing.Read())
				}
			}
			for _, step := range [][2]string{{"1 a 2", "2 a 5, 9 c 8"}, {"", "1 a 2, 5 a 5"}, {"2 b 4, 3 a 1, 9 c 9", "2 b 3, 5 a 1"}, {"1 a 2, 2 a 3, 2 a 5, 5 a 5, 5 a 1, 9 c 8, 2 b 3", ""}, {"", "1 a 1, 1 b 1"}} {
				got, e := k.standing.Do(graph(step[0]), graph(step[1]))
				want, f := as.standing.Do(graph(step[0]), graph(step[1]))
				if e != api.OK || f != api.OK || !equalDeltas(got, want) || !equal(k.standing.Read(), as.standing.Read()) {
					t.Fatalf("%v, behind %d: Do of %v: %v, %d, want %v, %d", v, c.want, step, got, e, want, f)
				}
			}
		}
	}
}

// bad are no views.
func bad() []api.View {
	var out []api.View
	with := func(v api.View, change func(v *api.View)) {
		change(&v)
		out = append(out, v)
	}
	pattern := func() api.View { return of("(x, y) = a(x, y), a(y, z)") }
	with(api.View{}, func(v *api.View) {})
	for _, kind := range []int{0, api.KReach, 3, -1, math.MaxInt} {
		with(pattern(), func(v *api.View) { v.Kind = kind })
	}
	for _, kind := range []int{0, api.KPattern, 3, -1, math.MinInt} {
		with(of("= reach a"), func(v *api.View) { v.Kind = kind })
	}
	for _, name := range []string{"", "A", "f1", "é", "a ", "\xff", strings.Repeat("f", api.MaxName+1)} {
		with(pattern(), func(v *api.View) { v.Name = name })
		with(pattern(), func(v *api.View) { v.Out[1] = name })
		with(pattern(), func(v *api.View) { v.Atoms[1].To = name })
		with(pattern(), func(v *api.View) { v.Atoms[1].From = name })
		with(pattern(), func(v *api.View) { v.Atoms[1].Label = name })
		with(of("= reach a"), func(v *api.View) { v.Name = name })
		with(of("= reach a"), func(v *api.View) { v.Label = name })
	}
	with(pattern(), func(v *api.View) { v.Label = "a" })
	with(pattern(), func(v *api.View) { v.Out = nil })
	with(pattern(), func(v *api.View) { v.Atoms = nil })
	with(pattern(), func(v *api.View) { v.Out[1] = "x" })
	with(pattern(), func(v *api.View) { v.Out[1] = "w" })
	with(pattern(), func(v *api.View) { v.Atoms = slices.Repeat(v.Atoms, 5)[:9] })
	with(of("(x, y, z, w, v, u) = a(x, y), a(z, w), a(v, u), a(t, x)"), func(v *api.View) { v.Out = append(v.Out, "t") })
	with(of("= reach a"), func(v *api.View) { v.Out = []string{"x"} })
	with(of("= reach a"), func(v *api.View) { v.Atoms = pattern().Atoms })
	return out
}

func TestP18_1NoView(t *testing.T) {
	for _, v := range bad() {
		for _, edges := range [][]api.Edge{nil, graph("1 a 2, 2 a 3, 1 a 2"), apart("a", 4001, 1), ring(64, 1)} { // ErrRange is told ahead of ErrFull
			fails(t, v, edges, api.ErrRange)
		}
	}
}

func TestP18_1View(t *testing.T) {
	for _, s := range []string{"(x) = a(x, x)", "(z, x) = a(x, y), b(y, z), view(z, x)", "(a, b, c, d, e, f) = a(a, b), b(c, d), c(e, f)", "= reach a", "= reach reach", "= reach " + strings.Repeat("z", 16)} {
		v := of(s)
		v.Name = "thename"
		k := made(t, v, graph("1 a 2, 2 b 3"))
		k.refused(t, graph("1 a 2"), graph("2 a 2, 7 reach 8"), api.OK)
		if got := k.standing.View(); !equalViews(got, v) {
			t.Errorf("%v, want %v", got, v)
		}
	}
}

func TestP18_1OneAtom(t *testing.T) {
	k := made(t, of("(y, x) = a(x, y)"), graph("1 a 2, 2 a 1, 3 a 3"))
	k.is(t, "(1 2)(2 1)(3 3)")
	k.done(t, "2 a 1", "1000 a 1, 1 a 1000", "(1 1000)(1000 1)", "(1 2)")
	k = made(t, of("(x) = a(x, x)"), graph("1 a 2, 2 a 1, 3 a 3"))
	k.is(t, "(3)")
	k.done(t, "3 a 3, 1 a 2", "2 a 2, 3 a 4", "(2)", "(3)")
	k = made(t, of("(y) = a(x, y)"), graph("1 a 2, 3 a 2"))
	k.done(t, "1 a 2", "", "", "")
	k.done(t, "3 a 2", "4 a 2, 2 a 4", "(4)", "")
	k.done(t, "4 a 2", "", "", "(2)")
}

func TestP18_1EightAtoms(t *testing.T) {
	var atoms []string
	for i := range api.MaxAtoms {
		atoms = append(atoms, "a("+string(rune('a'+i))+", "+string(rune('b'+i))+")")
	}
	k := made(t, of("(a, i) = "+strings.Join(atoms, ", ")), row(9, 1)) // a way of eight edges
	k.is(t, "(1 9)")
	k.done(t, "4 a 5", "4 a 20, 20 a 5", "(1 8)(2 9)", "(1 9)")
	k.done(t, "", "0 a 2, 9 a 10, 4 a 6", "(0 8)(0 10)(1 10)(3 10)", "")
	k.done(t, "20 a 5", "20 a 6", "(0 9)(1 9)(2 10)", "(0 8)(1 8)(2 9)(3 10)")
	k.done(t, "2 a 3", "", "", "(0 9)(0 10)(1 9)(1 10)(2 10)")
}

func TestP18_1AtomsThatAreTheSame(t *testing.T) {
	k := made(t, of("(x) = "+strings.TrimSuffix(strings.Repeat("a(x, y), ", 8), ", ")), apart("a", 3000, 1))
	k.counts(t, 3000)
	k.refused(t, nil, graph("1 a 1"), api.ErrFull)
	k.refused(t, graph("1 a 2"), graph("1 a 1"), api.OK)
	k.refused(t, apart("a", 2999, 3), nil, api.OK)
	k.is(t, "(1)")
}

func TestP18_1ReachOverRings(t *testing.T) {
	k := made(t, of("= reach a"), graph("1 a 2, 2 a 3, 3 a 1"))
	k.is(t, "(1 1)(1 2)(1 3)(2 1)(2 2)(2 3)(3 1)(3 2)(3 3)")
	k.done(t, "3 a 1", "3 a 4", "(1 4)(2 4)(3 4)", "(1 1)(2 1)(2 2)(3 1)(3 2)(3 3)")
	k.done(t, "", "4 a 2", "(2 2)(3 2)(3 3)(4 2)(4 3)(4 4)", "")
	k.done(t, "4 a 2", "3 a 2", "", "(4 2)(4 3)(4 4)") // a smaller ring
	k.done(t, "1 a 2", "1 a 1, 4 a 1", "(1 1)(2 1)(3 1)(4 1)", "(1 2)(1 3)(1 4)")
	k.done(t, "1 a 1", "4 a 4", "(4 4)", "(1 1)")
	k = made(t, of("= reach a"), graph("1 a 2, 2 a 1, 2 a 3, 3 a 2")) // they share a node
	k.counts(t, 9)
	k.done(t, "2 a 1", "", "", "(1 1)(2 1)(3 1)")
	k.done(t, "3 a 2, 1 a 2", "3 a 1", "(2 1)(3 1)", "(1 2)(1 3)(2 2)(3 2)(3 3)")
	k.is(t, "(2 1)(2 3)(3 1)")
	k = made(t, of("= reach a"), append(ring(30, 1), ring(30, 101)...))
	k.refused(t, graph("7 a 8, 110 a 111"), graph("7 a 111, 110 a 8"), api.OK) // one ring of both
	k.counts(t, 3600)
	k.refused(t, graph("7 a 111, 110 a 8"), graph("7 a 8, 110 a 111"), api.OK)
	k.counts(t, 1800)
}

// TestP18_1AnyEdges has edges that are none of a graph: any list of them is taken, and they are there as others are.
func TestP18_1AnyEdges(t *testing.T) {
	odd := []api.Edge{{}, {From: 0, Label: "a", To: 0}, {From: -1, Label: "a", To: 0}, {From: 0, Label: "a", To: -1}, {From: math.MinInt, Label: "a", To: math.MaxInt},
		{From: math.MaxInt, Label: "a", To: math.MinInt}, {From: 1001, Label: "a", To: 256}, {From: 256, Label: "a", To: 1}, {From: 1, Label: "", To: 1}, {From: 1, Label: "A", To: 1},
		{From: 1, Label: "\xff", To: 1}, {From: 1, Label: "a\x00", To: 1}, {From: 1, Label: strings.Repeat("a", 300), To: 2}}
	for _, v := range kinds() {
		k := made(t, v, odd)
		for _, e := range odd {
			one := []api.Edge{e}
			k.refused(t, nil, one, api.ErrTwice)
			k.refused(t, []api.Edge{e, e}, one, api.ErrTwice)
			k.refused(t, one, one, api.OK)
			k.refused(t, one, nil, api.OK)
			k.refused(t, one, one, api.ErrNone)
		}
		k.is(t, "")
		k.refused(t, nil, odd, api.OK)
		k.refused(t, odd, odd, api.OK)
		k.refused(t, odd, nil, api.OK)
		k.is(t, "")
	}
}

// TestP18_1ContentByItself has Content of views of no standing one.
func TestP18_1ContentByItself(t *testing.T) {
	edges := graph("3 a 1, 1 a 2, 2 b 9, 3 a 1")
	for s, want := range map[string]string{"(x) = a(x, y)": "(1)(3)", "(y, x) = a(x, y)": "(1 3)(2 1)", "(x, z) = a(x, y), b(y, z)": "(1 9)", "(x) = c(x, y)": "", "= reach a": "(1 2)(3 1)(3 2)", "= reach b": "(2 9)", "= reach c": ""} {
		contentIs(t, of(s), edges, list(want))
		contentIs(t, of(s), nil, nil)
		if got, e := view.Content(of(s), []api.Edge{}); e != api.OK || len(got) > 0 {
			t.Errorf("%s: %v, %d", s, got, e)
		}
	}
}
