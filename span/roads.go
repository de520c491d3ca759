package span

import (
	"slices"

	"rhizome/api"
)

// Roads are the edges of a label, told by places: a node's place is the one that it has in nodes. So what is kept of a
// node stands in a list, and the order of places is that of nodes.
type roads struct {
	nodes   []int   // those that the edges have, rising
	out, in [][]int // by place: where edges go to, and where they come from; rising, each once
}

func roadsOf(label string, edges []api.Edge) roads {
	nodes := nodesOf(label, edges)
	r := roads{nodes, make([][]int, len(nodes)), make([][]int, len(nodes))}
	for _, e := range edges {
		if e.Label == label {
			from, _ := r.place(e.From)
			to, _ := r.place(e.To)
			r.out[from] = append(r.out[from], to)
		}
	}
	for from := range r.out {
		r.out[from] = once(r.out[from])
		for _, to := range r.out[from] {
			r.in[to] = append(r.in[to], from)
		}
	}
	return r
}

func nodesOf(label string, edges []api.Edge) []int {
	var out []int
	for _, e := range edges {
		if e.Label == label {
			out = append(out, e.From, e.To)
		}
	}
	return once(out)
}

// once makes a list rise, with each number once.
func once(l []int) []int {
	slices.Sort(l)
	return slices.Compact(l)
}

// place is a node's, if an edge has it.
func (r roads) place(node int) (int, bool) { return slices.BinarySearch(r.nodes, node) }

// unknown is a list of -1, one a place.
func (r roads) unknown() []int { return slices.Repeat([]int{-1}, len(r.nodes)) }

// pairs are those of the span, in no order; if it is too great, more than MaxTuples of them.
func (r roads) pairs() []api.Tuple {
	var out []api.Tuple
	seen := r.unknown() // by place: from which one it was reached last; one list for all, for there may be many places
	for from := range r.nodes {
		for _, to := range r.reached(from, seen) {
			if out = append(out, api.Tuple{r.nodes[from], r.nodes[to]}); len(out) > api.MaxTuples {
				return out
			}
		}
	}
	return out
}

// reached are the places to which a way leads from one.
func (r roads) reached(from int, seen []int) []int {
	found := []int{from}
	for i := 0; i < len(found); i++ {
		for _, to := range r.out[found[i]] {
			if seen[to] != from {
				seen[to] = from
				found = append(found, to)
			}
		}
	}
	return found[1:]
}

// first are the nodes of the first way between two; none, if there is no way. It goes on, each time, to the least of
// the places that are nearest to its end: so none is shorter, and none of its length is less.
func (r roads) first(a, b int) []int {
	from, ok := r.place(a)
	to, there := r.place(b)
	if !ok || !there {
		return nil
	}
	far := r.farFrom(to)
	way := []int{a}
	for at := nearest(r.out[from], far); at >= 0; at = nearest(r.out[at], far) {
		way = append(way, r.nodes[at])
		if at == to {
			return way
		}
	}
	return nil
}

// farFrom tells, by place, with how many edges at least it leads to one; -1, if it doesn't.
func (r roads) farFrom(to int) []int {
	far := r.unknown()
	far[to] = 0
	found := []int{to}
	for i := 0; i < len(found); i++ {
		for _, from := range r.in[found[i]] {
			if far[from] < 0 {
				far[from] = far[found[i]] + 1
				found = append(found, from)
			}
		}
	}
	return far
}

// nearest is the first of these places than which none is less far; -1, if none leads there at all.
func nearest(places, far []int) int {
	out := -1
	for _, p := range places {
		if far[p] >= 0 && (out < 0 || far[p] < far[out]) {
			out = p
		}
	}
	return out
}
