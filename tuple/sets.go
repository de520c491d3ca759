package tuple

import "rhizome/api"

// What joined and without answer has the tuples of what they are given: whoever hands it out, hands out a copy.

func same(a, b api.Tuple) bool { return Cmp(a, b) == 0 }

// copied is a list of its own, and so is each of its tuples.
func copied(l []api.Tuple) []api.Tuple {
	out := make([]api.Tuple, len(l))
	for i, t := range l {
		out[i] = append(api.Tuple(nil), t...)
	}
	return out
}

// rise tells whether each of the lists is a set.
func rise(lists ...[]api.Tuple) bool {
	for _, l := range lists {
		if !Rises(l) {
			return false
		}
	}
	return true
}

// meet tells whether two sets have a tuple in common.
func meet(a, b []api.Tuple) bool { return len(without(a, b)) < len(a) }

// without is what is in the set a and not in the set b.
func without(a, b []api.Tuple) []api.Tuple {
	var out []api.Tuple
	for _, t := range a {
		for len(b) > 0 && Cmp(b[0], t) < 0 {
			b = b[1:]
		}
		if len(b) == 0 || !same(b[0], t) {
			out = append(out, t)
		}
	}
	return out
}

// joined is the tuples of two sets that have none in common, as a set.
func joined(a, b []api.Tuple) []api.Tuple {
	out := make([]api.Tuple, 0, len(a)+len(b))
	for len(a) > 0 && len(b) > 0 {
		if Cmp(a[0], b[0]) < 0 {
			out, a = append(out, a[0]), a[1:]
		} else {
			out, b = append(out, b[0]), b[1:]
		}
	}
	return append(append(out, a...), b...)
}
