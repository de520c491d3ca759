package net_test

import (
	"fmt"
	"math/rand"
	"slices"
	"strconv"
	"strings"
	"testing"

	"rhizome/api"
	"rhizome/join"
	"rhizome/net"
	"rhizome/query"
	"rhizome/tuple"
)

// pattern reads what stands behind a view's name: "(x, y) = a(x, z), a(z, y)".
func pattern(s string) api.View {
	v, _, _, e := query.Parse("view f" + s + ";")
	if e != api.OK {
		panic(s)
	}
	return v
}

func patternOf(out []string, atoms []api.Atom) api.View {
	return api.View{Name: "f", Kind: api.KPattern, Out: out, Atoms: atoms}
}

func number(s string) int {
	n, err := strconv.Atoi(s)
	if err != nil {
		panic(err)
	}
	return n
}

// graph reads edges as the chapter writes them: "1 a 2, 2 a 3".
func graph(s string) []api.Edge {
	var out []api.Edge
	for _, part := range strings.FieldsFunc(s, func(r rune) bool { return r == ',' }) {
		w := strings.Fields(part)
		out = append(out, api.Edge{From: number(w[0]), Label: w[1], To: number(w[2])})
	}
	return out
}

// list reads tuples as the chapter writes them: "(1 2)(3 4)".
func list(s string) []api.Tuple {
	var out []api.Tuple
	for _, part := range strings.SplitAfter(s, ")") {
		if part == "" {
			continue
		}
		t := api.Tuple{}
		for _, w := range strings.Fields(strings.Trim(part, "()")) {
			t = append(t, number(w))
		}
		out = append(out, t)
	}
	return out
}

// equal takes a list that is nil and one that is empty for the same.
func equal(a, b []api.Tuple) bool {
	return slices.EqualFunc(a, b, func(t, u api.Tuple) bool { return slices.Equal(t, u) })
}

func equalDeltas(a, b api.Delta) bool { return equal(a.Add, b.Add) && equal(a.Del, b.Del) }

// brief is a list's beginning.
func brief[T any](l []T) string {
	if len(l) > 20 {
		return fmt.Sprint(l[:20], " and more, in all ", len(l))
	}
	return fmt.Sprint(l)
}

// kept is a net, with what it is to keep: the edges, and the result that the deltas lead to.
type kept struct {
	net     *net.Net
	view    api.View
	edges   []api.Edge
	applied []api.Tuple
}

// made is a net that New answered, held to what it is to answer.
func made(t *testing.T, v api.View, edges []api.Edge) *kept {
	t.Helper()
	n, e := net.New(v, edges)
	if e != api.OK || n == nil {
		t.Fatalf("New of %v in %s: %d", v, brief(edges), e)
	}
	k := &kept{net: n, view: v}
	for _, edge := range edges {
		if !slices.Contains(k.edges, edge) {
			k.edges = append(k.edges, edge)
		}
	}
	k.applied = k.holds(t)
	return k
}

func (k *kept) told() string { return fmt.Sprint(k.view, " in ", brief(k.edges)) }

// holds holds all that the net tells to what is made anew, and answers the result.
func (k *kept) holds(t *testing.T) []api.Tuple {
	t.Helper()
	result, counts, e := join.Result(k.view, k.edges)
	if e != api.OK {
		t.Fatalf("Result of %s: %d", k.told(), e)
	}
	if got := k.net.Read(); !equal(got, result) {
		t.Fatalf("Read of %s: %s, want %s", k.told(), brief(got), brief(result))
	}
	for i, u := range result {
		if got := k.net.Count(u); got != counts[i] {
			t.Fatalf("Count of %s, %v: %d, want %d", k.told(), u, got, counts[i])
		}
	}
	levels := toldLevels(t, k.view, k.edges)
	if got := k.net.Levels(); !slices.Equal(got, levels) {
		t.Fatalf("Levels of %s: %v, want %v", k.told(), got, levels)
	}
	if got := k.net.Rows(); got != levels[len(levels)-1] {
		t.Fatalf("Rows of %s: %d, want %v", k.told(), got, levels)
	}
	return result
}

// toldLevels is how many rows there are of the first atoms: of each a pattern of its own is made.
func toldLevels(t *testing.T, v api.View, edges []api.Edge) []int {
	t.Helper()
	var out []int
	for i := range v.Atoms {
		rows, e := join.Rows(patternOf([]string{v.Atoms[0].From}, v.Atoms[:i+1]), edges)
		if e != api.OK {
			t.Fatalf("Rows of %v: %d", v.Atoms[:i+1], e)
		}
		out = append(out, len(rows))
	}
	return out
}

// toldError says anew what Do is to answer.
func (k *kept) toldError(edges []api.Edge, add bool) api.Errno {
	for i, e := range edges {
		there, came := slices.Contains(k.edges, e), slices.Contains(edges[:i], e)
		switch {
		case add && there, add && came:
			return api.ErrTwice
		case !add && !there:
			return api.ErrNone
		case !add && came:
			return api.ErrTwice
		}
	}
	if !add {
		return api.OK
	}
	_, _, e := join.Result(k.view, slices.Concat(k.edges, edges))
	return e
}

// do calls Do, holds it and all that the net tells behind it to what is made anew, and answers its error.
func (k *kept) do(t *testing.T, edges []api.Edge, add bool) api.Errno {
	t.Helper()
	want := k.toldError(edges, add)
	got, e := k.net.Do(edges, add)
	if e != want || e != api.OK && (got.Add != nil || got.Del != nil) {
		t.Fatalf("Do of %s, %s, %v: %v, %d, want %d", k.told(), brief(edges), add, got, e, want)
	}
	if e == api.OK && add {
		k.edges = append(k.edges, edges...)
	}
	if e == api.OK && !add {
		k.edges = slices.DeleteFunc(k.edges, func(e api.Edge) bool { return slices.Contains(edges, e) })
	}
	k.leads(t, got)
	return e
}

// leads holds a delta to be the difference of the result ahead and behind.
func (k *kept) leads(t *testing.T, d api.Delta) {
	t.Helper()
	result := k.holds(t)
	if want, e := tuple.Diff(k.applied, result); e != api.OK || !equalDeltas(d, want) {
		t.Fatalf("the delta of %s: %v, want %v", k.told(), d, want)
	}
	var e api.Errno
	if k.applied, e = tuple.Apply(k.applied, d); e != api.OK || !equal(k.applied, result) {
		t.Fatalf("the delta of %s: %v leads to %s, %d, want %s", k.told(), d, brief(k.applied), e, brief(result))
	}
}

// done holds Do to a delta, told as the chapter writes it.
func (k *kept) done(t *testing.T, edges string, add bool, plus, minus string) {
	t.Helper()
	ahead := k.net.Read()
	if e := k.do(t, graph(edges), add); e != api.OK {
		t.Fatalf("Do of %s, %s, %v: %d", k.told(), edges, add, e)
	}
	d := api.Delta{Add: list(plus), Del: list(minus)}
	if got, e := tuple.Diff(ahead, k.net.Read()); e != api.OK || !equalDeltas(got, d) {
		t.Fatalf("Do of %s, %s, %v: %v, want %v", k.told(), edges, add, got, d)
	}
}

// refused holds Do to an error.
func (k *kept) refused(t *testing.T, edges []api.Edge, add bool, want api.Errno) {
	t.Helper()
	if e := k.do(t, edges, add); e != want {
		t.Fatalf("Do of %s, %s, %v: %d, want %d", k.told(), brief(edges), add, e, want)
	}
}

// is holds what a net tells to what is told here.
func (k *kept) is(t *testing.T, result string, counts, levels []int) {
	t.Helper()
	if got := k.net.Read(); !equal(got, list(result)) {
		t.Errorf("Read of %s: %v, want %s", k.told(), got, result)
	}
	for i, u := range list(result) {
		if got := k.net.Count(u); got != counts[i] {
			t.Errorf("Count of %s, %v: %d, want %d", k.told(), u, got, counts[i])
		}
	}
	if got := k.net.Levels(); !slices.Equal(got, levels) {
		t.Errorf("Levels of %s: %v, want %v", k.told(), got, levels)
	}
	if got := k.net.Rows(); got != levels[len(levels)-1] {
		t.Errorf("Rows of %s: %d, want %d", k.told(), got, levels[len(levels)-1])
	}
}

// toldVars are the atoms' variables, in the order in which they come.
func toldVars(atoms []api.Atom) []string {
	var out []string
	for _, a := range atoms {
		for _, name := range []string{a.From, a.To} {
			if !slices.Contains(out, name) {
				out = append(out, name)
			}
		}
	}
	return out
}

// names are those of variables, each new one behind those that came.
const names = "xyzwvutsrqponmlk"

// shapes are all lists of so many atoms of the labels, but for the names of their variables.
func shapes(n int, labels ...string) [][]api.Atom {
	if n == 0 {
		return [][]api.Atom{nil}
	}
	var out [][]api.Atom
	for _, l := range shapes(n-1, labels...) {
		came := len(toldVars(l))
		for from := range came + 1 {
			for to := range max(came, from+1) + 1 {
				for _, label := range labels {
					out = append(out, append(slices.Clone(l), api.Atom{From: names[from : from+1], Label: label, To: names[to : to+1]}))
				}
			}
		}
	}
	return out
}

// some are n things, or fewer, of a list, in any order.
func some[T any](r *rand.Rand, n int, l []T) []T {
	out := slices.Clone(l)
	r.Shuffle(len(out), func(i, j int) { out[i], out[j] = out[j], out[i] })
	return out[:min(n, len(out))]
}

// drawnPattern has at most so many atoms, and variables: the fewer these are, the more are shared.
func drawnPattern(r *rand.Rand, most, vars int) api.View {
	var atoms []api.Atom
	vars = 1 + r.Intn(vars)
	for range 1 + r.Intn(most) {
		from, to := r.Intn(vars), r.Intn(vars)
		atoms = append(atoms, api.Atom{From: names[from : from+1], Label: string(rune('a' + r.Intn(3))), To: names[to : to+1]})
	}
	return patternOf(some(r, 1+r.Intn(api.MaxOut), toldVars(atoms)), atoms)
}

// drawnEdge is one between few nodes, maybe of a label that no atom has.
func drawnEdge(r *rand.Rand, nodes int) api.Edge {
	label := []string{"a", "a", "b", "b", "c", "other"}[r.Intn(6)]
	return api.Edge{From: 1 + r.Intn(nodes), Label: label, To: 1 + r.Intn(nodes)}
}

// drawnEdges are at most so many, some of them twice.
func drawnEdges(r *rand.Rand, nodes, most int) []api.Edge {
	var out []api.Edge
	for range r.Intn(most + 1) {
		out = append(out, drawnEdge(r, nodes))
	}
	return out
}

// grid is n edges of a label, from fifty nodes, of which no two are alike.
func grid(label string, n int) []api.Edge {
	var out []api.Edge
	for i := range n {
		out = append(out, api.Edge{From: 1 + i%50, Label: label, To: 101 + i/50})
	}
	return out
}

// loops is n edges of a label, each from a node to itself.
func loops(label string, n int) []api.Edge {
	var out []api.Edge
	for i := range n {
		out = append(out, api.Edge{From: i + 1, Label: label, To: i + 1})
	}
	return out
}
