package join_test

import (
	"fmt"
	"math/rand"
	"slices"
	"strconv"
	"strings"
	"testing"

	"rhizome/api"
	"rhizome/join"
	"rhizome/query"
)

// pattern reads what stands behind a view's name: "(x, y) = a(x, z), a(z, y)".
func pattern(s string) api.View {
	v, _, _, e := query.Parse("view f" + s + ";")
	if e != api.OK {
		panic(s)
	}
	return v
}

func number(s string) int {
	n, err := strconv.Atoi(s)
	if err != nil {
		panic(err)
	}
	return n
}

// graph reads edges as the chapter writes them: "1 a 2, 2 a 3".
func graph(s string) []api.Edge {
	var out []api.Edge
	for _, part := range strings.FieldsFunc(s, func(r rune) bool { return r == ',' }) {
		w := strings.Fields(part)
		out = append(out, api.Edge{From: number(w[0]), Label: w[1], To: number(w[2])})
	}
	return out
}

// list reads tuples as the chapter writes them: "(1 2)(3 4)".
func list(s string) []api.Tuple {
	var out []api.Tuple
	for _, part := range strings.SplitAfter(s, ")") {
		if part == "" {
			continue
		}
		t := api.Tuple{}
		for _, w := range strings.Fields(strings.Trim(part, "()")) {
			t = append(t, number(w))
		}
		out = append(out, t)
	}
	return out
}

// equal takes a list that is nil and one that is empty for the same.
func equal(a, b []api.Tuple) bool {
	return slices.EqualFunc(a, b, func(t, u api.Tuple) bool { return slices.Equal(t, u) })
}

// toldVars are the atoms' variables, in the order of a row.
func toldVars(atoms []api.Atom) []string {
	var all, out []string
	for _, a := range atoms {
		all = append(all, a.From, a.To)
	}
	for i, name := range all {
		if slices.Index(all, name) == i {
			out = append(out, name)
		}
	}
	return out
}

// nodesOf are the ends of the edges, rising.
func nodesOf(edges []api.Edge) []int {
	var out []int
	for _, e := range edges {
		out = append(out, e.From, e.To)
	}
	slices.Sort(out)
	return slices.Compact(out)
}

// mayBe tells whether a row of the variables may begin so: whether each atom whose variables it has all is an edge.
func mayBe(vars []string, atoms []api.Atom, edges []api.Edge, row api.Tuple) bool {
	for _, a := range atoms {
		from, to := slices.Index(vars, a.From), slices.Index(vars, a.To)
		if from < len(row) && to < len(row) && !isThere(edges, row[from], a.Label, row[to]) {
			return false
		}
	}
	return true
}

func isThere(edges []api.Edge, from int, label string, to int) bool {
	for _, e := range edges {
		if e.From == from && e.Label == label && e.To == to {
			return true
		}
	}
	return false
}

// toldHolds says anew what a row of atoms is.
func toldHolds(atoms []api.Atom, edges []api.Edge, row api.Tuple) bool {
	vars := toldVars(atoms)
	return len(row) == len(vars) && mayBe(vars, atoms, edges, row)
}

// toldRows are the atoms' rows, as a set, but no more than one too many: each node is tried for each variable.
func toldRows(atoms []api.Atom, edges []api.Edge) []api.Tuple {
	nodes, vars := nodesOf(edges), toldVars(atoms)
	var out []api.Tuple
	var goOn func(row api.Tuple)
	goOn = func(row api.Tuple) {
		switch {
		case len(out) > 3000 || !mayBe(vars, atoms, edges, row):
		case len(row) == len(vars):
			out = append(out, slices.Clone(row))
		default:
			for _, n := range nodes {
				goOn(append(row, n))
			}
		}
	}
	goOn(nil)
	return out
}

func toldTooGreat(v api.View, edges []api.Edge) bool {
	for k := range v.Atoms {
		if len(toldRows(v.Atoms[:k+1], edges)) > 3000 {
			return true
		}
	}
	return false
}

// toldResult puts what one row after the other has at the outputs at its place.
func toldResult(v api.View, rows []api.Tuple) ([]api.Tuple, []int) {
	vars := toldVars(v.Atoms)
	var out []api.Tuple
	var counts []int
	for _, row := range rows {
		t := api.Tuple{}
		for _, name := range v.Out {
			t = append(t, row[slices.Index(vars, name)])
		}
		i := 0
		for i < len(out) && slices.Compare(out[i], t) < 0 {
			i++
		}
		if i == len(out) || !slices.Equal(out[i], t) {
			out, counts = slices.Insert(out, i, t), slices.Insert(counts, i, 0)
		}
		counts[i]++
	}
	return out, counts
}

// check holds Rows and Result of a pattern to what is told, and answers the rows.
func check(t *testing.T, v api.View, edges []api.Edge) []api.Tuple {
	t.Helper()
	if toldTooGreat(v, edges) {
		refused(t, v, edges, api.ErrFull)
		return nil
	}
	rows := toldRows(v.Atoms, edges)
	result, counts := toldResult(v, rows)
	answers(t, v, edges, rows, result, counts)
	return rows
}

// answers holds Rows and Result to what they are to answer.
func answers(t *testing.T, v api.View, edges []api.Edge, rows, result []api.Tuple, counts []int) {
	t.Helper()
	if got, e := join.Rows(v, edges); e != api.OK || !equal(got, rows) {
		t.Fatalf("Rows of %s: %s, %d, want %s", told(v, edges), brief(got), e, brief(rows))
	}
	if got, n, e := join.Result(v, edges); e != api.OK || !equal(got, result) || !slices.Equal(n, counts) {
		t.Fatalf("Result of %s: %s, %s, %d, want %s, %s", told(v, edges), brief(got), brief(n), e, brief(result), brief(counts))
	}
}

// refused holds Rows and Result to an error, beside which nothing is answered.
func refused(t *testing.T, v api.View, edges []api.Edge, want api.Errno) {
	t.Helper()
	if got, e := join.Rows(v, edges); e != want || got != nil {
		t.Fatalf("Rows of %s: %s, %d, want %d", told(v, edges), brief(got), e, want)
	}
	if got, n, e := join.Result(v, edges); e != want || got != nil || n != nil {
		t.Fatalf("Result of %s: %s, %s, %d, want %d", told(v, edges), brief(got), brief(n), e, want)
	}
}

// checkHolds holds Holds of rows to what is told.
func checkHolds(t *testing.T, v api.View, edges []api.Edge, rows ...api.Tuple) {
	t.Helper()
	for _, row := range rows {
		if got := join.Holds(v, edges, row); got != toldHolds(v.Atoms, edges, row) {
			t.Fatalf("Holds of %s, %v: %v", told(v, edges), row, got)
		}
	}
}

// brief is a list's beginning.
func brief[T any](l []T) string {
	if len(l) > 20 {
		return fmt.Sprint(l[:20], " and more, in all ", len(l))
	}
	return fmt.Sprint(l)
}

func told(v api.View, edges []api.Edge) string { return fmt.Sprint(v, " in ", brief(edges)) }

// near are tuples that have much in common with a row: of another node at a place, of one place less, or more, in another order.
func near(row api.Tuple, nodes []int) []api.Tuple {
	out := []api.Tuple{nil, row, append(slices.Clone(row), row...)}
	for i := range row {
		out = append(out, slices.Delete(slices.Clone(row), i, i+1), slices.Insert(slices.Clone(row), i, row[i]))
		other := slices.Clone(row)
		other[0], other[i] = other[i], other[0]
		out = append(out, other)
		for _, n := range append(nodes, 0) {
			other := slices.Clone(row)
			other[i] = n
			out = append(out, other, append(slices.Clone(row), n))
		}
	}
	return out
}

// tuples are all of so many of the nodes.
func tuples(n int, nodes []int) []api.Tuple {
	out := []api.Tuple{{}}
	for range n {
		var longer []api.Tuple
		for _, t := range out {
			for _, node := range nodes {
				longer = append(longer, append(slices.Clone(t), node))
			}
		}
		out = longer
	}
	return out
}

// names are those of variables, each new one behind those that came.
const names = "xyzwvutsrqponmlk"

// shapes are all lists of so many atoms of the labels, but for the names of their variables.
func shapes(n int, labels ...string) [][]api.Atom {
	if n == 0 {
		return [][]api.Atom{nil}
	}
	var out [][]api.Atom
	for _, l := range shapes(n-1, labels...) {
		came := len(toldVars(l))
		for from := range came + 1 {
			for to := range max(came, from+1) + 1 {
				for _, label := range labels {
					out = append(out, append(slices.Clone(l), api.Atom{From: names[from : from+1], Label: label, To: names[to : to+1]}))
				}
			}
		}
	}
	return out
}

// outputs are all lists of at least one, and at most MaxOut, of the variables, each once, in each order.
func outputs(vars []string) [][]string {
	var out [][]string
	var goOn func(l []string)
	goOn = func(l []string) {
		if len(l) > 0 {
			out = append(out, slices.Clone(l))
		}
		for _, name := range vars {
			if !slices.Contains(l, name) && len(l) < api.MaxOut {
				goOn(append(l, name))
			}
		}
	}
	goOn(nil)
	return out
}

func patternOf(out []string, atoms []api.Atom) api.View {
	return api.View{Name: "f", Kind: api.KPattern, Out: out, Atoms: atoms}
}

// some are n things, or fewer, of a list, in any order.
func some[T any](r *rand.Rand, n int, l []T) []T {
	out := slices.Clone(l)
	r.Shuffle(len(out), func(i, j int) { out[i], out[j] = out[j], out[i] })
	return out[:min(n, len(out))]
}

// drawnPattern has at most so many atoms, and variables: the fewer these are, the more are shared.
func drawnPattern(r *rand.Rand, most, vars int) api.View {
	var atoms []api.Atom
	vars = 1 + r.Intn(vars)
	for range 1 + r.Intn(most) {
		from, to := r.Intn(vars), r.Intn(vars)
		atoms = append(atoms, api.Atom{From: names[from : from+1], Label: string(rune('a' + r.Intn(3))), To: names[to : to+1]})
	}
	out := some(r, 1+r.Intn(api.MaxOut), toldVars(atoms))
	return patternOf(out, atoms)
}

// drawnEdges are at most so many, between few nodes, some of them twice, some of a label that no atom has.
func drawnEdges(r *rand.Rand, most int) []api.Edge {
	nodes := 1 + r.Intn(6)
	var out []api.Edge
	for range r.Intn(most + 1) {
		if len(out) > 0 && r.Intn(8) == 0 {
			out = append(out, out[r.Intn(len(out))])
			continue
		}
		out = append(out, api.Edge{From: 1 + r.Intn(nodes), Label: []string{"a", "a", "b", "b", "c", "other"}[r.Intn(6)], To: 1 + r.Intn(nodes)})
	}
	return out
}

// grid is n edges of a label, from fifty nodes on, of which no two are alike.
func grid(label string, n int) []api.Edge {
	var out []api.Edge
	for i := range n {
		out = append(out, api.Edge{From: 1 + i%50, Label: label, To: 101 + i/50})
	}
	return out
}
