package dred

import "rhizome/api"

// Links lead from nodes to nodes. A node from which none leads isn't in the map.
type links map[int]map[int]struct{}

func (l links) put(from, to int) {
	if l[from] == nil {
		l[from] = map[int]struct{}{}
	}
	l[from][to] = struct{}{}
}

func (l links) take(from, to int) {
	delete(l[from], to)
	if len(l[from]) == 0 {
		delete(l, from)
	}
}

func (l links) has(from, to int) bool {
	_, ok := l[from][to]
	return ok
}

// count is how many there are.
func (l links) count() int {
	n := 0
	for _, to := range l {
		n += len(to)
	}
	return n
}

// tuples are the links, in no order.
func (l links) tuples() []api.Tuple {
	var out []api.Tuple
	for from, all := range l {
		for to := range all {
			out = append(out, api.Tuple{from, to})
		}
	}
	return out
}

// goOn tells whether a link leads from one of the nodes.
func (l links) goOn(nodes map[int]struct{}) bool {
	for n := range nodes {
		if l[n] != nil {
			return true
		}
	}
	return false
}
