package span

import "slices"

// rings are the sets of nodes of which each leads to each, itself too, in the order of their least nodes.
func (r roads) rings() [][]int {
	part := r.parts()
	members := make([][]int, len(r.nodes)) // by part: its nodes, rising
	for p, node := range r.nodes {
		members[part[p]] = append(members[part[p]], node)
	}
	var out [][]int
	for p, node := range r.nodes {
		l := members[part[p]]
		if l[0] == node && (len(l) > 1 || slices.Contains(r.out[p], p)) {
			out = append(out, l)
		}
	}
	return out
}

// parts tells, by place, its part: places that lead to one another have the same, others haven't. If one part leads to
// another, the walk leaves the one that leads behind the other; so, from the walk's end on, what leads to a place and is
// in no part yet is of that place's part.
func (r roads) parts() []int {
	part := r.unknown()
	for _, last := range slices.Backward(r.left()) {
		if part[last] >= 0 {
			continue
		}
		part[last] = last
		found := []int{last}
		for i := 0; i < len(found); i++ {
			for _, from := range r.in[found[i]] {
				if part[from] < 0 {
					part[from] = last
					found = append(found, from)
				}
			}
		}
	}
	return part
}

// left are all places, in the order in which a walk leaves them that goes along each edge to what is new to it, and
// goes back where nothing is. The walk stands in a list: there may be too many places for calls within each other.
func (r roads) left() []int {
	var out, path []int
	seen := make([]bool, len(r.nodes))
	more := slices.Clone(r.out) // by place: where it may go yet
	for first := range r.nodes {
		if !seen[first] {
			seen[first] = true
			path = append(path, first)
		}
		for len(path) > 0 {
			at := path[len(path)-1]
			if len(more[at]) == 0 {
				out, path = append(out, at), path[:len(path)-1]
				continue
			}
			to := more[at][0]
			more[at] = more[at][1:]
			if !seen[to] {
				seen[to] = true
				path = append(path, to)
			}
		}
	}
	return out
}
