package view_test

import (
	"fmt"
	"math/rand"
	"slices"
	"strconv"
	"strings"
	"testing"

	"rhizome/api"
	"rhizome/query"
	"rhizome/tuple"
	"rhizome/view"
)

// of reads what stands behind the word view and its name: "(x, y) = a(x, z), a(z, y)", or "= reach a".
func of(s string) api.View {
	v, _, _, e := query.Parse("view f" + s + ";")
	if e != api.OK {
		panic(s)
	}
	return v
}

func number(s string) int {
	n, err := strconv.Atoi(s)
	if err != nil {
		panic(err)
	}
	return n
}

// graph reads edges as the chapter writes them: "1 a 2, 2 a 3".
func graph(s string) []api.Edge {
	var out []api.Edge
	for _, part := range strings.FieldsFunc(s, func(r rune) bool { return r == ',' }) {
		w := strings.Fields(part)
		out = append(out, api.Edge{From: number(w[0]), Label: w[1], To: number(w[2])})
	}
	return out
}

// list reads tuples as the chapter writes them: "(1 2)(3 4)".
func list(s string) []api.Tuple {
	var out []api.Tuple
	for _, part := range strings.SplitAfter(s, ")") {
		if part == "" {
			continue
		}
		t := api.Tuple{}
		for _, w := range strings.Fields(strings.Trim(part, "()")) {
			t = append(t, number(w))
		}
		out = append(out, t)
	}
	return out
}

// equal takes a list that is nil and one that is empty for the same.
func equal(a, b []api.Tuple) bool {
	return slices.EqualFunc(a, b, func(t, u api.Tuple) bool { return slices.Equal(t, u) })
}

func equalDeltas(a, b api.Delta) bool { return equal(a.Add, b.Add) && equal(a.Del, b.Del) }

// equalViews takes likewise.
func equalViews(a, b api.View) bool {
	return a.Name == b.Name && a.Kind == b.Kind && a.Label == b.Label && slices.Equal(a.Out, b.Out) && slices.Equal(a.Atoms, b.Atoms)
}

// brief is a list's beginning.
func brief[T any](l []T) string {
	if len(l) > 20 {
		return fmt.Sprint(l[:20], " and more, in all ", len(l))
	}
	return fmt.Sprint(l)
}

// told is a delta's beginning.
func told(d api.Delta) string { return "Add " + brief(d.Add) + ", Del " + brief(d.Del) }

// others are those of the edges that aren't there, each once.
func others(edges, there []api.Edge) []api.Edge {
	var out []api.Edge
	came := map[api.Edge]bool{}
	for _, e := range there {
		came[e] = true
	}
	for _, e := range edges {
		if !came[e] {
			came[e] = true
			out = append(out, e)
		}
	}
	return out
}

// toldContent says anew what a view's content is, and whether the view is too great: the layers below aren't asked.
func toldContent(v api.View, edges []api.Edge) ([]api.Tuple, bool) {
	if v.Kind == api.KReach {
		return toldSpan(v.Label, edges)
	}
	return toldResult(v, edges)
}

// toldSpan goes on from each pair by each edge from where it leads, till there is no pair more, or one too many.
func toldSpan(label string, edges []api.Edge) ([]api.Tuple, bool) {
	var out []api.Tuple
	came := map[[2]int]bool{}
	find := func(from, to int) {
		if p := [2]int{from, to}; !came[p] {
			came[p] = true
			out = append(out, api.Tuple{from, to})
		}
	}
	next := map[int][]int{}
	for _, e := range others(edges, nil) {
		if e.Label == label {
			next[e.From] = append(next[e.From], e.To)
			find(e.From, e.To)
		}
	}
	for i := 0; i < len(out) && len(out) <= 4000; i++ {
		for _, to := range next[out[i][1]] {
			find(out[i][0], to)
		}
	}
	if len(out) > 4000 {
		return nil, true
	}
	slices.SortFunc(out, func(a, b api.Tuple) int { return slices.Compare(a, b) })
	return out, false
}

// toldVars are the atoms' variables, in the order in which they come.
func toldVars(atoms []api.Atom) []string {
	var out []string
	for _, a := range atoms {
		for _, name := range []string{a.From, a.To} {
			if !slices.Contains(out, name) {
				out = append(out, name)
			}
		}
	}
	return out
}

// toldResult tries, atom by atom, each edge with each row that there is so far.
func toldResult(v api.View, edges []api.Edge) ([]api.Tuple, bool) {
	vars, rows := toldVars(v.Atoms), [][]int{nil}
	edges = others(edges, nil)
	for _, a := range v.Atoms {
		from, to := slices.Index(vars, a.From), slices.Index(vars, a.To)
		mine := slices.DeleteFunc(slices.Clone(edges), func(e api.Edge) bool { return e.Label != a.Label || from == to && e.From != e.To })
		var more [][]int
		for _, row := range rows {
			for _, e := range mine {
				if from < len(row) && row[from] != e.From || to < len(row) && row[to] != e.To {
					continue
				}
				if more = append(more, goOn(goOn(row, from, e.From), to, e.To)); len(more) > 3000 {
					return nil, true
				}
			}
		}
		rows = more
	}
	var out []api.Tuple
	for _, row := range rows {
		var t api.Tuple
		for _, name := range v.Out {
			t = append(t, row[slices.Index(vars, name)])
		}
		out = append(out, t)
	}
	slices.SortFunc(out, func(a, b api.Tuple) int { return slices.Compare(a, b) })
	return slices.CompactFunc(out, func(a, b api.Tuple) bool { return slices.Equal(a, b) }), false
}

// goOn is a row with a node at a place: one that it has, or its next one.
func goOn(row []int, at, node int) []int {
	if at == len(row) {
		return append(slices.Clone(row), node)
	}
	return row
}

// kept is a standing view, with what it is to keep: the edges, each once, and the content that the deltas lead to.
type kept struct {
	standing *view.Standing
	view     api.View
	edges    []api.Edge
	applied  []api.Tuple
}

// made is what New answered, held to what it is to answer.
func made(t *testing.T, v api.View, edges []api.Edge) *kept {
	t.Helper()
	s, e := view.New(v, edges)
	if e != api.OK || s == nil {
		t.Fatalf("New of %v in %s: %d", v, brief(edges), e)
	}
	k := &kept{standing: s, view: v, edges: others(edges, nil)}
	k.applied = k.holds(t)
	contentIs(t, v, edges, k.applied)
	return k
}

func contentIs(t *testing.T, v api.View, edges []api.Edge, want []api.Tuple) {
	t.Helper()
	if got, e := view.Content(v, edges); e != api.OK || !equal(got, want) {
		t.Fatalf("Content of %v in %s: %s, %d, want %s", v, brief(edges), brief(got), e, brief(want))
	}
}

// fails holds New and Content to an error, beside which nothing is answered.
func fails(t *testing.T, v api.View, edges []api.Edge, want api.Errno) {
	t.Helper()
	if s, e := view.New(v, edges); s != nil || e != want {
		t.Errorf("New of %v in %s: %v, %d, want %d", v, brief(edges), s, e, want)
	}
	if got, e := view.Content(v, edges); got != nil || e != want {
		t.Errorf("Content of %v in %s: %s, %d, want %d", v, brief(edges), brief(got), e, want)
	}
}

func (k *kept) told() string { return fmt.Sprint(k.view, " in ", brief(k.edges)) }

// holds holds all that the standing view tells to what is made anew, and answers the content.
func (k *kept) holds(t *testing.T) []api.Tuple {
	t.Helper()
	want, great := toldContent(k.view, k.edges)
	if great {
		t.Fatalf("%s is too great", k.told())
	}
	if got := k.standing.Read(); !equal(got, want) {
		t.Fatalf("Read of %s: %s, want %s", k.told(), brief(got), brief(want))
	}
	if got := k.standing.View(); !equalViews(got, k.view) {
		t.Fatalf("View of %s: %v", k.told(), got)
	}
	return want
}

// behind are the edges that are there when those of gone went and then those of come came.
func (k *kept) behind(gone, come []api.Edge) []api.Edge {
	return slices.Concat(others(k.edges, gone), come)
}

// toldError says anew what Do is to answer.
func (k *kept) toldError(gone, come []api.Edge) api.Errno {
	if len(others(gone, k.edges)) > 0 {
		return api.ErrNone
	}
	for _, l := range [][]api.Edge{gone, come} {
		if len(others(l, nil)) < len(l) {
			return api.ErrTwice
		}
	}
	if len(others(come, others(k.edges, gone))) < len(come) {
		return api.ErrTwice
	}
	if _, great := toldContent(k.view, k.behind(gone, come)); great {
		return api.ErrFull
	}
	return api.OK
}

// do calls Do, holds it and all that is told behind it to what is made anew, and answers its error.
func (k *kept) do(t *testing.T, gone, come []api.Edge) api.Errno {
	t.Helper()
	want := k.toldError(gone, come)
	got, e := k.standing.Do(gone, come)
	k.answered(t, gone, come, got, e, want)
	return e
}

// answered holds what Do answered to an error, or to the delta that leads from the content ahead to the one behind.
func (k *kept) answered(t *testing.T, gone, come []api.Edge, got api.Delta, e, want api.Errno) {
	t.Helper()
	if e != want || e != api.OK && (got.Add != nil || got.Del != nil) {
		t.Fatalf("Do of %s, %s, %s: %s, %d, want %d", k.told(), brief(gone), brief(come), told(got), e, want)
	}
	if e == api.OK {
		k.edges = k.behind(gone, come)
	}
	content := k.holds(t)
	if want, e := tuple.Diff(k.applied, content); e != api.OK || !equalDeltas(got, want) {
		t.Fatalf("Do of %s, %s, %s: %s, want %s", k.told(), brief(gone), brief(come), told(got), told(want))
	}
	if k.applied, e = tuple.Apply(k.applied, got); e != api.OK || !equal(k.applied, content) {
		t.Fatalf("Do of %s, %s, %s: %s leads to %s, %d", k.told(), brief(gone), brief(come), told(got), brief(k.applied), e)
	}
}

// refused holds Do to an error; or to none.
func (k *kept) refused(t *testing.T, gone, come []api.Edge, want api.Errno) {
	t.Helper()
	if e := k.do(t, gone, come); e != want {
		t.Fatalf("Do of %s, %s, %s: %d, want %d", k.told(), brief(gone), brief(come), e, want)
	}
}

// done holds Do to a delta, told as the chapter writes it.
func (k *kept) done(t *testing.T, gone, come, plus, minus string) {
	t.Helper()
	ahead := k.applied
	k.refused(t, graph(gone), graph(come), api.OK)
	want := api.Delta{Add: list(plus), Del: list(minus)}
	if got, e := tuple.Diff(ahead, k.applied); e != api.OK || !equalDeltas(got, want) {
		t.Fatalf("Do of %s, %s, %s: %s, want %s", k.told(), gone, come, told(got), told(want))
	}
}

// is holds the content to what is told here, also that of the edges that are there.
func (k *kept) is(t *testing.T, content string) {
	t.Helper()
	if got := k.standing.Read(); !equal(got, list(content)) {
		t.Errorf("Read of %s: %v, want %s", k.told(), got, content)
	}
	contentIs(t, k.view, k.edges, list(content))
}

// counts holds the content to so many tuples, likewise.
func (k *kept) counts(t *testing.T, n int) {
	t.Helper()
	if len(k.applied) != n {
		t.Errorf("%s: %d tuples, want %d", k.told(), len(k.applied), n)
	}
	contentIs(t, k.view, k.edges, k.applied)
}

// some are n edges, or fewer, of a list, in any order.
func some[T any](r *rand.Rand, n int, l []T) []T {
	out := slices.Clone(l)
	r.Shuffle(len(out), func(i, j int) { out[i], out[j] = out[j], out[i] })
	return out[:min(n, len(out))]
}

// drawnView is a reach, or a pattern of at most so many atoms, of which some share variables.
func drawnView(r *rand.Rand, most int) api.View {
	if r.Intn(3) == 0 {
		return of("= reach " + []string{"a", "b"}[r.Intn(2)])
	}
	const names = "xyzwvu"
	vars := 1 + r.Intn(len(names))
	var atoms []api.Atom
	for range 1 + r.Intn(most) {
		from, to := r.Intn(vars), r.Intn(vars)
		atoms = append(atoms, api.Atom{From: names[from : from+1], Label: string(rune('a' + r.Intn(3))), To: names[to : to+1]})
	}
	return api.View{Name: "f", Kind: api.KPattern, Out: some(r, 1+r.Intn(api.MaxOut), toldVars(atoms)), Atoms: atoms}
}

// drawnEdge is one between few nodes, maybe of a label that no view has.
func drawnEdge(r *rand.Rand, nodes int) api.Edge {
	label := []string{"a", "a", "a", "b", "b", "c", "other"}[r.Intn(7)]
	return api.Edge{From: 1 + r.Intn(nodes), Label: label, To: 1 + r.Intn(nodes)}
}

// drawnEdges are at most so many, some of them twice.
func drawnEdges(r *rand.Rand, nodes, most int) []api.Edge {
	var out []api.Edge
	for range r.Intn(most + 1) {
		out = append(out, drawnEdge(r, nodes))
	}
	return out
}

// row is a row of n nodes, from first on; it has an edge less.
func row(n, first int) []api.Edge {
	var out []api.Edge
	for i := range n - 1 {
		out = append(out, api.Edge{From: first + i, Label: "a", To: first + i + 1})
	}
	return out
}

// ring is one of n nodes, likewise.
func ring(n, first int) []api.Edge {
	return append(row(n, first), api.Edge{From: first + n - 1, Label: "a", To: first})
}

// fan is n edges of a label from one node to others, from first on.
func fan(from int, label string, n, first int) []api.Edge {
	var out []api.Edge
	for i := range n {
		out = append(out, api.Edge{From: from, Label: label, To: first + i})
	}
	return out
}

// hub is n edges of a label to one node from others, from first on.
func hub(to int, label string, n, first int) []api.Edge {
	var out []api.Edge
	for i := range n {
		out = append(out, api.Edge{From: first + i, Label: label, To: to})
	}
	return out
}

// apart is n edges of a label that don't meet, from first on.
func apart(label string, n, first int) []api.Edge {
	var out []api.Edge
	for i := range n {
		out = append(out, api.Edge{From: first + 2*i, Label: label, To: first + 2*i + 1})
	}
	return out
}
