package tuple_test

import (
	"math"
	"math/rand"
	"slices"
	"strconv"
	"strings"

	"rhizome/api"
)

// list reads tuples as the chapter writes them: "(1)(2 3)()"; min and max are the ends of int.
func list(s string) []api.Tuple {
	var out []api.Tuple
	for _, part := range strings.SplitAfter(s, ")") {
		if part != "" {
			out = append(out, one(strings.Trim(part, "()")))
		}
	}
	return out
}

// one reads the numbers of a tuple.
func one(s string) api.Tuple {
	out := api.Tuple{}
	for _, word := range strings.Fields(s) {
		n, err := strconv.Atoi(word)
		switch {
		case word == "min":
			n = math.MinInt
		case word == "max":
			n = math.MaxInt
		case err != nil:
			panic(err)
		}
		out = append(out, n)
	}
	return out
}

func delta(add, del string) api.Delta { return api.Delta{Add: list(add), Del: list(del)} }

// order tells the order of two tuples, number by number.
func order(a, b api.Tuple) int {
	for i := 0; i < len(a) || i < len(b); i++ {
		switch {
		case i >= len(a):
			return -1
		case i >= len(b):
			return 1
		case a[i] < b[i]:
			return -1
		case a[i] > b[i]:
			return 1
		}
	}
	return 0
}

func has(l []api.Tuple, t api.Tuple) bool {
	for _, u := range l {
		if order(u, t) == 0 {
			return true
		}
	}
	return false
}

// isSet holds each two tuples of a list against each other, be they neighbours or not.
func isSet(l []api.Tuple) bool {
	for i := range l {
		for j := range i {
			if order(l[j], l[i]) != -1 {
				return false
			}
		}
	}
	return true
}

func areSets(lists ...[]api.Tuple) bool { return !slices.ContainsFunc(lists, isNone) }

func isNone(l []api.Tuple) bool { return !isSet(l) }

// setOf puts one tuple after the other at its place.
func setOf(lists ...[]api.Tuple) []api.Tuple {
	var out []api.Tuple
	for _, t := range slices.Concat(lists...) {
		i := 0
		for i < len(out) && order(out[i], t) < 0 {
			i++
		}
		if i == len(out) || order(out[i], t) != 0 {
			out = slices.Insert(out, i, t)
		}
	}
	return out
}

// less is what is in a and not in b.
func less(a, b []api.Tuple) []api.Tuple {
	var out []api.Tuple
	for _, t := range a {
		if !has(b, t) {
			out = append(out, t)
		}
	}
	return out
}

// share tells whether a tuple is in both lists.
func share(a, b []api.Tuple) bool { return len(less(a, b)) < len(a) }

func toldDiff(from, to []api.Tuple) (api.Delta, api.Errno) {
	if !areSets(from, to) {
		return api.Delta{}, api.ErrRange
	}
	return api.Delta{Add: less(to, from), Del: less(from, to)}, api.OK
}

func toldApply(s []api.Tuple, d api.Delta) ([]api.Tuple, api.Errno) {
	if !areSets(s, d.Add, d.Del) {
		return nil, api.ErrRange
	}
	if share(d.Add, s) {
		return nil, api.ErrTwice
	}
	if len(less(d.Del, s)) > 0 {
		return nil, api.ErrNone
	}
	return setOf(less(s, d.Del), d.Add), api.OK
}

func toldThen(a, b api.Delta) (api.Delta, api.Errno) {
	if !areSets(a.Add, a.Del, b.Add, b.Del) {
		return api.Delta{}, api.ErrRange
	}
	if share(a.Add, b.Add) || share(a.Del, b.Del) || share(a.Add, a.Del) || share(b.Add, b.Del) {
		return api.Delta{}, api.ErrTwice
	}
	return api.Delta{Add: setOf(less(a.Add, b.Del), less(b.Add, a.Del)), Del: setOf(less(a.Del, b.Add), less(b.Del, a.Add))}, api.OK
}

// equal takes a tuple of no numbers and one that is nil for the same.
func equal(a, b []api.Tuple) bool {
	return slices.EqualFunc(a, b, func(t, u api.Tuple) bool { return slices.Equal(t, u) })
}

func equalDeltas(a, b api.Delta) bool { return equal(a.Add, b.Add) && equal(a.Del, b.Del) }

// lists are all lists of at most so many of the tuples, each as often as one likes.
func lists(most int, of []api.Tuple) [][]api.Tuple {
	out := [][]api.Tuple{nil}
	for first := 0; most > 0; most-- {
		last := len(out)
		for _, l := range out[first:last] {
			for _, t := range of {
				out = append(out, append(slices.Clone(l), t))
			}
		}
		first = last
	}
	return out
}

// sets are all sets of some of the tuples, which rise.
func sets(of []api.Tuple) [][]api.Tuple {
	out := [][]api.Tuple{nil}
	for _, t := range of {
		for _, l := range out {
			out = append(out, append(slices.Clone(l), t))
		}
	}
	return out
}

// anyTuple has few numbers, of few, so that tuples come twice and begin each other; now and then an end of int.
func anyTuple(r *rand.Rand) api.Tuple {
	out := api.Tuple{}
	for range r.Intn(5) {
		n := r.Intn(7) - 3
		switch r.Intn(20) {
		case 0:
			n = math.MinInt
		case 1:
			n = math.MaxInt
		}
		out = append(out, n)
	}
	return out
}

func anyList(r *rand.Rand, most int) []api.Tuple {
	var out []api.Tuple
	for range r.Intn(most + 1) {
		out = append(out, anyTuple(r))
	}
	return out
}

func anySet(r *rand.Rand, most int) []api.Tuple { return setOf(anyList(r, most)) }

// someOf is a part of a list, in its order.
func someOf(r *rand.Rand, l []api.Tuple) []api.Tuple {
	var out []api.Tuple
	for _, t := range l {
		if r.Intn(2) == 0 {
			out = append(out, t)
		}
	}
	return out
}

// near is a set that has much in common with another one.
func near(r *rand.Rand, s []api.Tuple) []api.Tuple { return setOf(someOf(r, s), anyList(r, 8)) }

// rising are n tuples of one number, from first on, step by step.
func rising(n, first, step int) []api.Tuple {
	var out []api.Tuple
	for i := range n {
		out = append(out, api.Tuple{first + i*step})
	}
	return out
}
