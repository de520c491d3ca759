package dred

import (
	"maps"
	"slices"

	"rhizome/api"
	"rhizome/tuple"
)

// come has edges come that aren't there: all new pairs are found ahead of any that is kept, for there may be too many.
func (d *Dred) come(edges links) (api.Delta, api.Errno) {
	var add []api.Tuple
	room := api.MaxTuples - d.pairs.count()
	for _, from := range d.begins(edges) {
		for _, to := range d.past(from, edges) {
			if !d.pairs.has(from, to) {
				add = append(add, api.Tuple{from, to})
			}
		}
		if len(add) > room {
			return api.Delta{}, api.ErrFull
		}
	}
	for _, e := range edges.tuples() {
		d.putEdge(e[0], e[1])
	}
	for _, p := range add {
		d.pairs.put(p[0], p[1])
	}
	d.over = 0
	return api.Delta{Add: tuple.Set(add)}, api.OK
}

// leave has edges go that are there: each pair that a way over one of them leads to is deleted; what is left then has
// ways without them, and from it the others of those pairs that have one are derived again.
func (d *Dred) leave(edges links) api.Delta {
	for _, e := range edges.tuples() {
		d.takeEdge(e[0], e[1])
	}
	var del []api.Tuple
	d.over = 0
	for _, from := range d.begins(edges) {
		deleted := d.past(from, edges)
		for _, to := range deleted {
			d.pairs.take(from, to)
		}
		gone := d.again(from, slices.Clone(deleted))
		for _, to := range gone {
			del = append(del, api.Tuple{from, to})
		}
		d.over += len(deleted) - len(gone)
	}
	return api.Delta{Del: tuple.Set(del)}
}

// begins are the nodes from which a way leads over one of these edges, in no order. The pairs are those ahead of the
// change.
func (d *Dred) begins(edges links) []int {
	out := slices.Collect(maps.Keys(edges))
	for from, all := range d.pairs {
		if edges[from] == nil && edges.goOn(all) {
			out = append(out, from)
		}
	}
	return out
}

// past are the nodes to which a way leads from one that goes over one of these edges, which come or go: each once, in no
// order. The pairs are those ahead of the change.
func (d *Dred) past(from int, edges links) []int {
	var found []int
	seen := map[int]struct{}{}
	find := func(nodes map[int]struct{}) {
		for n := range nodes {
			if _, ok := seen[n]; !ok {
				seen[n] = struct{}{}
				found = append(found, n)
			}
		}
	}
	find(edges[from])
	for at := range d.pairs[from] {
		find(edges[at])
	}
	for i := 0; i < len(found); i++ {
		find(d.out[found[i]])
		find(edges[found[i]])
	}
	return found
}

// again derives again what it can of the deleted pairs from a node, by where they lead, and answers where the others
// do. What is derived may lead on to a pair that was looked at ahead of it: so it is looked for from the beginning, till
// there is none.
func (d *Dred) again(from int, deleted []int) []int {
search:
	for {
		for _, to := range deleted {
			if d.derives(from, to) {
				deleted = slices.DeleteFunc(deleted, func(to int) bool { return d.back(from, to) })
				continue search
			}
		}
		return deleted
	}
}

// derives tells whether an edge leads to a node from another one, or from where that one leads.
func (d *Dred) derives(from, to int) bool {
	for last := range d.in[to] {
		if last == from || d.pairs.has(from, last) {
			return true
		}
	}
	return false
}

// back puts a deleted pair back, if it derives, and tells whether it does.
func (d *Dred) back(from, to int) bool {
	if !d.derives(from, to) {
		return false
	}
	d.pairs.put(from, to)
	return true
}
