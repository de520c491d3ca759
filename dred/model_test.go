package dred_test

import (
	"fmt"
	"math/rand"
	"slices"
	"strconv"
	"strings"
	"testing"

	"rhizome/api"
	"rhizome/dred"
	"rhizome/span"
	"rhizome/tuple"
)

func number(s string) int {
	n, err := strconv.Atoi(s)
	if err != nil {
		panic(err)
	}
	return n
}

// graph reads edges as the chapter writes them: "1 a 2, 2 a 3".
func graph(s string) []api.Edge {
	var out []api.Edge
	for _, part := range strings.FieldsFunc(s, func(r rune) bool { return r == ',' }) {
		w := strings.Fields(part)
		out = append(out, api.Edge{From: number(w[0]), Label: w[1], To: number(w[2])})
	}
	return out
}

// list reads tuples as the chapter writes them: "(1 2)(3 4)".
func list(s string) []api.Tuple {
	var out []api.Tuple
	for _, part := range strings.SplitAfter(s, ")") {
		if part == "" {
			continue
		}
		t := api.Tuple{}
		for _, w := range strings.Fields(strings.Trim(part, "()")) {
			t = append(t, number(w))
		}
		out = append(out, t)
	}
	return out
}

// equal takes a list that is nil and one that is empty for the same.
func equal(a, b []api.Tuple) bool {
	return slices.EqualFunc(a, b, func(t, u api.Tuple) bool { return slices.Equal(t, u) })
}

func equalDeltas(a, b api.Delta) bool { return equal(a.Add, b.Add) && equal(a.Del, b.Del) }

// brief is a list's beginning.
func brief[T any](l []T) string {
	if len(l) > 20 {
		return fmt.Sprint(l[:20], " and more, in all ", len(l))
	}
	return fmt.Sprint(l)
}

// told is a delta's beginning.
func told(d api.Delta) string { return "Add " + brief(d.Add) + ", Del " + brief(d.Del) }

// kept is a dred, with what it is to keep: the edges of its label, the span that the deltas lead to, and Over.
type kept struct {
	dred    *dred.Dred
	label   string
	edges   []api.Edge
	applied []api.Tuple
	over    int
}

// made is a dred of the label a that New answered, held to what it is to answer.
func made(t *testing.T, edges []api.Edge) *kept {
	t.Helper()
	return madeOf(t, "a", edges)
}

func madeOf(t *testing.T, label string, edges []api.Edge) *kept {
	t.Helper()
	d, e := dred.New(label, edges)
	if e != api.OK || d == nil {
		t.Fatalf("New of %q in %s: %d", label, brief(edges), e)
	}
	k := &kept{dred: d, label: label}
	k.edges = others(k.mine(edges), nil)
	k.applied = k.holds(t)
	return k
}

// mine are those of the edges that have the label.
func (k *kept) mine(edges []api.Edge) []api.Edge {
	var out []api.Edge
	for _, e := range edges {
		if e.Label == k.label {
			out = append(out, e)
		}
	}
	return out
}

// others are those of the edges that aren't there, each once.
func others(edges, there []api.Edge) []api.Edge {
	var out []api.Edge
	came := map[api.Edge]bool{}
	for _, e := range there {
		came[e] = true
	}
	for _, e := range edges {
		if !came[e] {
			came[e] = true
			out = append(out, e)
		}
	}
	return out
}

func (k *kept) told() string { return fmt.Sprint(k.label, " in ", brief(k.edges)) }

// holds holds all that the dred tells to what is made anew, and answers the span.
func (k *kept) holds(t *testing.T) []api.Tuple {
	t.Helper()
	pairs, e := span.Pairs(k.label, k.edges)
	if e != api.OK {
		t.Fatalf("Pairs of %s: %d", k.told(), e)
	}
	if got := k.dred.Read(); !equal(got, pairs) {
		t.Fatalf("Read of %s: %s, want %s", k.told(), brief(got), brief(pairs))
	}
	k.has(t, pairs)
	if got := k.dred.Over(); got != k.over || got < 0 || got > len(pairs) {
		t.Fatalf("Over of %s: %d, want %d, of %d", k.told(), got, k.over, len(pairs))
	}
	return pairs
}

// has holds Has of each two of the nodes, or of the least of them, and of some that no edge has.
func (k *kept) has(t *testing.T, pairs []api.Tuple) {
	t.Helper()
	in := map[[2]int]bool{}
	for _, p := range pairs {
		in[[2]int{p[0], p[1]}] = true
		if !k.dred.Has(p[0], p[1]) {
			t.Fatalf("Has of %s: not %v", k.told(), p)
		}
	}
	nodes := nodesOf(k.edges)
	nodes = append(nodes[:min(len(nodes), 12)], 0, -7, 77777)
	for _, a := range nodes {
		for _, b := range nodes {
			if got := k.dred.Has(a, b); got != in[[2]int{a, b}] {
				t.Fatalf("Has of %s, %d, %d: %v", k.told(), a, b, got)
			}
		}
	}
}

// nodesOf are the ends of the edges, rising.
func nodesOf(edges []api.Edge) []int {
	var out []int
	for _, e := range edges {
		out = append(out, e.From, e.To)
	}
	slices.Sort(out)
	return slices.Compact(out)
}

// toldError says anew what Do is to answer.
func (k *kept) toldError(edges []api.Edge, add bool) api.Errno {
	there, came := map[api.Edge]bool{}, map[api.Edge]bool{}
	for _, e := range k.edges {
		there[e] = true
	}
	for _, e := range k.mine(edges) {
		switch {
		case add && there[e], add && came[e]:
			return api.ErrTwice
		case !add && !there[e]:
			return api.ErrNone
		case !add && came[e]:
			return api.ErrTwice
		}
		came[e] = true
	}
	if !add {
		return api.OK
	}
	_, e := span.Pairs(k.label, slices.Concat(k.edges, edges))
	return e
}

// changed has the edges be there, or no more.
func (k *kept) changed(edges []api.Edge, add bool) {
	if add {
		k.edges = append(k.edges, k.mine(edges)...)
	} else {
		k.edges = others(k.edges, edges)
	}
}

// do calls Do, holds it and all that the dred tells behind it to what is made anew, and answers its error.
func (k *kept) do(t *testing.T, edges []api.Edge, add bool) api.Errno {
	t.Helper()
	want := k.toldError(edges, add)
	got, e := k.dred.Do(edges, add)
	if e != want || e != api.OK && (got.Add != nil || got.Del != nil) {
		t.Fatalf("Do of %s, %s, %v: %s, %d, want %d", k.told(), brief(edges), add, told(got), e, want)
	}
	if e == api.OK {
		k.changed(edges, add)
		k.newOver(t, add)
	}
	k.leads(t, got)
	return e
}

// newOver takes what Over tells behind a call that wasn't refused: with add, that is 0.
func (k *kept) newOver(t *testing.T, add bool) {
	t.Helper()
	if k.over = k.dred.Over(); add && k.over != 0 {
		t.Fatalf("Over of %s: %d, with add", k.told(), k.over)
	}
}

// leads holds a delta to be the difference of the span ahead and behind.
func (k *kept) leads(t *testing.T, d api.Delta) {
	t.Helper()
	pairs := k.holds(t)
	if want, e := tuple.Diff(k.applied, pairs); e != api.OK || !equalDeltas(d, want) {
		t.Fatalf("the delta of %s: %s, want %s", k.told(), told(d), told(want))
	}
	var e api.Errno
	if k.applied, e = tuple.Apply(k.applied, d); e != api.OK || !equal(k.applied, pairs) {
		t.Fatalf("the delta of %s: %s leads to %s, %d, want %s", k.told(), told(d), brief(k.applied), e, brief(pairs))
	}
}

// come holds Do with add to the tuples that are new, told as the chapter writes them.
func (k *kept) come(t *testing.T, edges, plus string) {
	t.Helper()
	k.done(t, edges, true, api.Delta{Add: list(plus)})
}

// leave holds Do without add to the tuples that are gone.
func (k *kept) leave(t *testing.T, edges, minus string) {
	t.Helper()
	k.done(t, edges, false, api.Delta{Del: list(minus)})
}

func (k *kept) done(t *testing.T, edges string, add bool, want api.Delta) {
	t.Helper()
	ahead := k.dred.Read()
	k.refused(t, graph(edges), add, api.OK)
	if got, e := tuple.Diff(ahead, k.dred.Read()); e != api.OK || !equalDeltas(got, want) {
		t.Fatalf("Do of %s, %s, %v: %s, want %s", k.told(), edges, add, told(got), told(want))
	}
}

// refused holds Do to an error; or to none.
func (k *kept) refused(t *testing.T, edges []api.Edge, add bool, want api.Errno) {
	t.Helper()
	if e := k.do(t, edges, add); e != want {
		t.Fatalf("Do of %s, %s, %v: %d, want %d", k.told(), brief(edges), add, e, want)
	}
}

// is holds the span to what is told here.
func (k *kept) is(t *testing.T, pairs string) {
	t.Helper()
	if got := k.dred.Read(); !equal(got, list(pairs)) {
		t.Errorf("Read of %s: %v, want %s", k.told(), got, pairs)
	}
}

// counts holds the span to so many tuples.
func (k *kept) counts(t *testing.T, n int) {
	t.Helper()
	if got := k.dred.Read(); len(got) != n {
		t.Errorf("Read of %s: %d, want %d", k.told(), len(got), n)
	}
}

// between are the edges whose bits are set, among all between so many nodes.
func between(nodes, bits int) []api.Edge {
	var out []api.Edge
	for i := range nodes * nodes {
		if bits>>i&1 == 1 {
			out = append(out, api.Edge{From: 1 + i/nodes, Label: "a", To: 1 + i%nodes})
		}
	}
	return out
}

// row is a row of n nodes, from first on, step by step; it has an edge less.
func row(n, first, step int) []api.Edge {
	var out []api.Edge
	for i := range n - 1 {
		out = append(out, api.Edge{From: first + i*step, Label: "a", To: first + (i+1)*step})
	}
	return out
}

// ring is one of n nodes, likewise.
func ring(n, first, step int) []api.Edge {
	return append(row(n, first, step), api.Edge{From: first + (n-1)*step, Label: "a", To: first})
}

// fan is n edges from one node to others, from first on.
func fan(from, n, first int) []api.Edge {
	var out []api.Edge
	for i := range n {
		out = append(out, api.Edge{From: from, Label: "a", To: first + i})
	}
	return out
}

// apart is n edges that don't meet, from first on.
func apart(n, first int) []api.Edge {
	var out []api.Edge
	for i := range n {
		out = append(out, api.Edge{From: first + 2*i, Label: "a", To: first + 2*i + 1})
	}
	return out
}

// hub is edges from so many nodes to one, and from there to so many others.
func hub(in, out int) []api.Edge {
	l := fan(500, out, 501)
	for i := range in {
		l = append(l, api.Edge{From: 499 - i, Label: "a", To: 500})
	}
	return l
}

// labelled are the edges with another label.
func labelled(label string, edges []api.Edge) []api.Edge {
	out := slices.Clone(edges)
	for i := range out {
		out[i].Label = label
	}
	return out
}

// some are n edges, or fewer, of a list, in any order.
func some(r *rand.Rand, n int, l []api.Edge) []api.Edge {
	out := slices.Clone(l)
	r.Shuffle(len(out), func(i, j int) { out[i], out[j] = out[j], out[i] })
	return out[:min(n, len(out))]
}

// mixed are the edges in another order.
func mixed(r *rand.Rand, l []api.Edge) []api.Edge { return some(r, len(l), l) }

// drawnEdge is one between few nodes, maybe of another label.
func drawnEdge(r *rand.Rand, nodes int) api.Edge {
	label := []string{"a", "a", "a", "a", "b", "aa"}[r.Intn(6)]
	return api.Edge{From: 1 + r.Intn(nodes), Label: label, To: 1 + r.Intn(nodes)}
}

// drawnEdges are at most so many, some of them twice.
func drawnEdges(r *rand.Rand, nodes, most int) []api.Edge {
	var out []api.Edge
	for range r.Intn(most + 1) {
		out = append(out, drawnEdge(r, nodes))
	}
	return out
}
