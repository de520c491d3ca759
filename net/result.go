package net

import (
	"rhizome/api"
	"rhizome/tuple"
)

// A result has tuples by their bytes, each with its count, which is at least 1.
type result map[string]counted

type counted struct {
	tuple api.Tuple
	count int
}

// gain counts tuples of rows that are new, and answers those that weren't there, as a set.
func (r result) gain(l []api.Tuple) []api.Tuple {
	var out []api.Tuple
	for _, t := range l {
		b := bytesOf(t)
		count := r[b].count + 1
		if count == 1 {
			out = append(out, t)
		}
		r[b] = counted{t, count}
	}
	return tuple.Set(out)
}

// lose counts tuples of rows that are gone, and answers those that aren't there any more, as a set.
func (r result) lose(l []api.Tuple) []api.Tuple {
	var out []api.Tuple
	for _, t := range l {
		b := bytesOf(t)
		count := r[b].count - 1
		if count == 0 {
			delete(r, b)
			out = append(out, t)
			continue
		}
		r[b] = counted{t, count}
	}
	return tuple.Set(out)
}

// set is the tuples, in order.
func (r result) set() []api.Tuple {
	var out []api.Tuple
	for _, c := range r {
		out = append(out, c.tuple)
	}
	return tuple.Set(out)
}
