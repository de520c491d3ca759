package span_test

import (
	"fmt"
	"math/rand"
	"slices"
	"strconv"
	"strings"
	"testing"

	"rhizome/api"
	"rhizome/span"
)

func number(s string) int {
	n, err := strconv.Atoi(s)
	if err != nil {
		panic(err)
	}
	return n
}

func numbers(s string) []int {
	var out []int
	for _, w := range strings.Fields(s) {
		out = append(out, number(w))
	}
	return out
}

// graph reads edges as the chapter writes them: "1 a 2, 2 a 3".
func graph(s string) []api.Edge {
	var out []api.Edge
	for _, part := range strings.FieldsFunc(s, func(r rune) bool { return r == ',' }) {
		w := strings.Fields(part)
		out = append(out, api.Edge{From: number(w[0]), Label: w[1], To: number(w[2])})
	}
	return out
}

// list reads tuples as the chapter writes them: "(1 2)(3 4)".
func list(s string) []api.Tuple {
	var out []api.Tuple
	for _, part := range strings.SplitAfter(s, ")") {
		if part != "" {
			out = append(out, numbers(strings.Trim(part, "()")))
		}
	}
	return out
}

// groups reads rings: "1 2, 3".
func groups(s string) [][]int {
	var out [][]int
	for _, part := range strings.FieldsFunc(s, func(r rune) bool { return r == ',' }) {
		out = append(out, numbers(part))
	}
	return out
}

// equal takes a list that is nil and one that is empty for the same.
func equal[T ~[]int](a, b []T) bool {
	return slices.EqualFunc(a, b, func(t, u T) bool { return slices.Equal(t, u) })
}

// isThere tells whether an edge is in the list.
func isThere(label string, edges []api.Edge, from, to int) bool {
	for _, e := range edges {
		if e.From == from && e.Label == label && e.To == to {
			return true
		}
	}
	return false
}

// nodesOf are the ends of the edges, of whatever label, rising.
func nodesOf(edges []api.Edge) []int {
	var out []int
	for _, e := range edges {
		out = append(out, e.From, e.To)
	}
	slices.Sort(out)
	return slices.Compact(out)
}

// toldPairs tries, for each two nodes and each one between them, whether both halves are there, till nothing is new.
func toldPairs(label string, edges []api.Edge) []api.Tuple {
	nodes := nodesOf(edges)
	leads := map[[2]int]bool{}
	for _, e := range edges {
		if e.Label == label {
			leads[[2]int{e.From, e.To}] = true
		}
	}
	for more := true; more; {
		more = false
		for _, a := range nodes {
			for _, b := range nodes {
				for _, c := range nodes {
					if leads[[2]int{a, b}] && leads[[2]int{b, c}] && !leads[[2]int{a, c}] {
						leads[[2]int{a, c}], more = true, true
					}
				}
			}
		}
	}
	var out []api.Tuple
	for _, a := range nodes {
		for _, b := range nodes {
			if leads[[2]int{a, b}] {
				out = append(out, api.Tuple{a, b})
			}
		}
	}
	return out
}

// toldWay tries all lists of nodes, the shorter first, the lesser first among those of a length: the first that is a way
// is the first way. It goes no further with a list that isn't a way's beginning.
func toldWay(label string, edges []api.Edge, a, b int) []int {
	nodes := nodesOf(edges)
	var try func(way []int, more int) []int
	try = func(way []int, more int) []int {
		last := way[len(way)-1]
		if more == 0 {
			if last == b {
				return slices.Clone(way)
			}
			return nil
		}
		for _, n := range nodes {
			if isThere(label, edges, last, n) {
				if found := try(append(way, n), more-1); found != nil {
					return found
				}
			}
		}
		return nil
	}
	for length := 1; length <= len(nodes); length++ {
		if found := try([]int{a}, length); found != nil {
			return found
		}
	}
	return nil
}

// toldRings puts together the nodes that have pairs both ways.
func toldRings(pairs []api.Tuple, nodes []int) [][]int {
	leads := map[[2]int]bool{}
	for _, p := range pairs {
		leads[[2]int{p[0], p[1]}] = true
	}
	var out [][]int
	done := map[int]bool{}
	for _, a := range nodes {
		if done[a] || !leads[[2]int{a, a}] {
			continue
		}
		var ring []int
		for _, b := range nodes {
			if leads[[2]int{a, b}] && leads[[2]int{b, a}] {
				ring = append(ring, b)
				done[b] = true
			}
		}
		out = append(out, ring)
	}
	return out
}

// spans holds Pairs to what it is to answer.
func spans(t *testing.T, label string, edges []api.Edge, want []api.Tuple) {
	t.Helper()
	if got, e := span.Pairs(label, edges); e != api.OK || !equal(got, want) {
		t.Fatalf("Pairs(%s) of %s: %s, %d, want %s", label, brief(edges), brief(got), e, brief(want))
	}
}

// leads holds Way to what it is to answer; to ErrNone, if that is none.
func leads(t *testing.T, label string, edges []api.Edge, a, b int, want []int) {
	t.Helper()
	e := api.OK
	if want == nil {
		e = api.ErrNone
	}
	got, f := span.Way(label, edges, a, b)
	if f != e || !slices.Equal(got, want) || e != api.OK && got != nil {
		t.Fatalf("Way(%s, %d, %d) of %s: %s, %d, want %s, %d", label, a, b, brief(edges), brief(got), f, brief(want), e)
	}
}

// rings holds Rings to what it is to answer.
func rings(t *testing.T, label string, edges []api.Edge, want [][]int) {
	t.Helper()
	if got, e := span.Rings(label, edges); e != api.OK || !equal(got, want) {
		t.Fatalf("Rings(%s) of %s: %s, %d, want %s", label, brief(edges), brief(got), e, brief(want))
	}
}

// check holds all calls to what is told, Way of each two nodes that an edge has, and of some that none has.
func check(t *testing.T, label string, edges []api.Edge) {
	t.Helper()
	nodes, pairs := nodesOf(edges), toldPairs(label, edges)
	spans(t, label, edges, pairs)
	rings(t, label, edges, toldRings(pairs, nodes))
	for _, a := range slices.Concat(nodes, []int{77, 0}) {
		for _, b := range slices.Concat(nodes, []int{77, -1}) {
			leads(t, label, edges, a, b, toldWay(label, edges, a, b))
		}
	}
}

// brief is a list's beginning.
func brief[T any](l []T) string {
	if len(l) > 20 {
		return fmt.Sprint(l[:20], " and more, in all ", len(l))
	}
	return fmt.Sprint(l)
}

// between are the edges of a label whose bits are set, among all between so many nodes.
func between(nodes, bits int) []api.Edge {
	var out []api.Edge
	for i := range nodes * nodes {
		if bits>>i&1 == 1 {
			out = append(out, api.Edge{From: 1 + i/nodes, Label: "a", To: 1 + i%nodes})
		}
	}
	return out
}

// row is a row of n nodes, of a label, from first on, step by step; it has an edge less.
func row(label string, n, first, step int) []api.Edge {
	var out []api.Edge
	for i := range n - 1 {
		out = append(out, api.Edge{From: first + i*step, Label: label, To: first + (i+1)*step})
	}
	return out
}

// ring is one of n nodes, likewise.
func ring(label string, n, first, step int) []api.Edge {
	return append(row(label, n, first, step), api.Edge{From: first + (n-1)*step, Label: label, To: first})
}

// rising are n numbers from first on.
func rising(n, first int) []int {
	var out []int
	for i := range n {
		out = append(out, first+i)
	}
	return out
}

// mixed are the edges in another order.
func mixed(r *rand.Rand, edges []api.Edge) []api.Edge {
	out := slices.Clone(edges)
	r.Shuffle(len(out), func(i, j int) { out[i], out[j] = out[j], out[i] })
	return out
}

// drawn are at most so many edges between at most so many nodes, some twice, some of other labels. The fewer nodes there
// are, the more of them are in rings.
func drawn(r *rand.Rand, most, nodes int) []api.Edge {
	nodes = 1 + r.Intn(nodes)
	var out []api.Edge
	for range r.Intn(most + 1) {
		if len(out) > 0 && r.Intn(9) == 0 {
			out = append(out, out[r.Intn(len(out))])
			continue
		}
		out = append(out, api.Edge{From: 1 + r.Intn(nodes), Label: []string{"a", "a", "a", "a", "b", "aa"}[r.Intn(6)], To: 1 + r.Intn(nodes)})
	}
	return out
}
