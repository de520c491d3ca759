package join_test

import (
	"math/rand"
	"slices"
	"testing"

	"rhizome/api"
	"rhizome/join"
)

// permuted are all orders of some things.
func permuted[T any](l []T) [][]T {
	if len(l) == 0 {
		return [][]T{nil}
	}
	var out [][]T
	for _, rest := range permuted(l[1:]) {
		for i := range len(l) {
			out = append(out, slices.Insert(slices.Clone(rest), i, l[0]))
		}
	}
	return out
}

// toldAll is what is told of a pattern that isn't too great, however its atoms stand.
func toldAll(v api.View, edges []api.Edge) ([]api.Tuple, []int) {
	return toldResult(v, toldRows(v.Atoms, edges))
}

// resultIs holds Result to what it is to answer.
func resultIs(t *testing.T, v api.View, edges []api.Edge, want []api.Tuple, counts []int) {
	t.Helper()
	got, n, e := join.Result(v, edges)
	if e != api.OK || !equal(got, want) || !slices.Equal(n, counts) {
		t.Fatalf("Result of %s: %s, %s, %d, want %s, %s", told(v, edges), brief(got), brief(n), e, brief(want), brief(counts))
	}
}

func TestP11_2TheAtomsInEachOrder(t *testing.T) {
	r := rand.New(rand.NewSource(1104))
	some := 0
	for range 800 {
		v, g := drawnPattern(r, 5, 7), drawnEdges(r, 14)
		result, counts := toldAll(v, g)
		for _, atoms := range permuted(v.Atoms) {
			w := patternOf(v.Out, atoms)
			if toldTooGreat(w, g) {
				refused(t, w, g, api.ErrFull)
				continue
			}
			resultIs(t, w, g, result, counts)
			some += min(len(result), 1)
		}
	}
	if some < 3000 {
		t.Errorf("%d", some)
	}
}

// TestP11_2SomeOrdersTooGreat has a pattern of which some orders of the atoms are too great, and all others alike.
func TestP11_2SomeOrdersTooGreat(t *testing.T) {
	v := pattern("(w, x) = a(x, y), b(y, z), a(z, w)")
	g := append(grid("a", 60), graph("101 b 1, 102 b 50, 102 b 51, 7 b 1")...)
	result, counts := toldAll(v, g)
	for _, atoms := range permuted(v.Atoms) {
		if atoms[2].Label == "b" {
			refused(t, patternOf(v.Out, atoms), g, api.ErrFull)
		} else {
			resultIs(t, patternOf(v.Out, atoms), g, result, counts)
		}
	}
}

func TestP11_2TheEdgesInEachOrder(t *testing.T) {
	r := rand.New(rand.NewSource(1105))
	for range 300 {
		v, g := drawnPattern(r, 4, 5), drawnEdges(r, 14)
		result, counts := toldAll(v, g)
		for range 6 {
			resultIs(t, v, some(r, len(g), g), result, counts)
			resultIs(t, v, some(r, 2*len(g), slices.Concat(g, g)), result, counts)
		}
	}
}

// grows tells whether each tuple of a result is in another one, with no lower count.
func grows(result []api.Tuple, counts []int, more []api.Tuple, moreCounts []int) bool {
	for i, u := range result {
		at := slices.IndexFunc(more, func(w api.Tuple) bool { return slices.Equal(u, w) })
		if at < 0 || moreCounts[at] < counts[i] {
			return false
		}
	}
	return true
}

// TestP11_2MoreEdges puts one edge after the other to a list, till the pattern is too great.
func TestP11_2MoreEdges(t *testing.T) {
	r := rand.New(rand.NewSource(1106))
	grew := 0
	for range 1000 {
		v, all := drawnPattern(r, 4, 5), drawnEdges(r, 30)
		var result []api.Tuple
		var counts []int
		var rows []api.Tuple
		for n := range len(all) + 1 {
			if toldTooGreat(v, all[:n]) {
				refused(t, v, all, api.ErrFull)
				break
			}
			more, moreCounts := toldAll(v, all[:n])
			resultIs(t, v, all[:n], more, moreCounts)
			if !grows(result, counts, more, moreCounts) {
				t.Fatalf("Result of %s: %v, behind %v", told(v, all[:n]), more, result)
			}
			for _, row := range rows {
				if !join.Holds(v, all[:n], row) {
					t.Fatalf("Holds of %s: no %v", told(v, all[:n]), row)
				}
			}
			grew += len(more) - len(result)
			result, counts, rows = more, moreCounts, toldRows(v.Atoms, all[:n])
		}
	}
	if grew < 1000 {
		t.Errorf("%d", grew)
	}
}

// TestP11_2AnAtomOnceMore puts each atom once more at each place: behind itself the rows stay, too; ahead of itself the pattern may become too great.
func TestP11_2AnAtomOnceMore(t *testing.T) {
	r := rand.New(rand.NewSource(1107))
	for range 500 {
		v, g := drawnPattern(r, 4, 5), drawnEdges(r, 18)
		if toldTooGreat(v, g) {
			continue
		}
		rows := toldRows(v.Atoms, g)
		result, counts := toldResult(v, rows)
		for i, a := range v.Atoms {
			for at := range len(v.Atoms) + 1 {
				w := patternOf(v.Out, slices.Insert(slices.Clone(v.Atoms), at, a))
				if at > i {
					answers(t, w, g, rows, result, counts)
				} else if toldTooGreat(w, g) {
					refused(t, w, g, api.ErrFull)
				} else {
					resultIs(t, w, g, result, counts)
				}
			}
		}
		if twice := patternOf(v.Out, slices.Concat(v.Atoms, v.Atoms)); len(twice.Atoms) <= api.MaxAtoms {
			answers(t, twice, g, rows, result, counts)
		}
	}
}

// TestP11_2OtherNames has the variables of other names: only their places count.
func TestP11_2OtherNames(t *testing.T) {
	r := rand.New(rand.NewSource(1108))
	for range 300 {
		v, g := drawnPattern(r, 4, 5), drawnEdges(r, 14)
		vars, others := toldVars(v.Atoms), some(r, 16, []string{"a", "b", "c", "f", "x", "xx", "xy", "view", "reach", "y", "z", "abcdefghijklmnop", "k", "q", "other", "zz"})
		w := patternOf(nil, nil)
		for _, name := range v.Out {
			w.Out = append(w.Out, others[slices.Index(vars, name)])
		}
		for _, a := range v.Atoms {
			w.Atoms = append(w.Atoms, api.Atom{From: others[slices.Index(vars, a.From)], Label: a.Label, To: others[slices.Index(vars, a.To)]})
		}
		if toldTooGreat(v, g) {
			refused(t, w, g, api.ErrFull)
			continue
		}
		rows := toldRows(v.Atoms, g)
		result, counts := toldResult(v, rows)
		answers(t, w, g, rows, result, counts)
	}
}
