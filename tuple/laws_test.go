package tuple_test

import (
	"math/rand"
	"slices"
	"testing"

	"rhizome/api"
	"rhizome/tuple"
)

// made is what Diff answers of two sets.
func made(t *testing.T, from, to []api.Tuple) api.Delta {
	t.Helper()
	d, e := tuple.Diff(from, to)
	if e != api.OK {
		t.Fatalf("Diff(%v, %v): %d", from, to, e)
	}
	return d
}

// leads holds a delta to lead from a set to another one.
func leads(t *testing.T, from []api.Tuple, d api.Delta, to []api.Tuple) {
	t.Helper()
	if got, e := tuple.Apply(from, d); e != api.OK || !equal(got, to) {
		t.Fatalf("Apply(%v, %v): %v, %d, want %v", from, d, got, e, to)
	}
}

func TestP10_2ADiffLeadsThereAndBack(t *testing.T) {
	r := rand.New(rand.NewSource(1004))
	for range 600 {
		from := anySet(r, 40)
		for _, to := range [][]api.Tuple{from, nil, anySet(r, 40), near(r, from), someOf(r, from)} {
			d := made(t, from, to)
			leads(t, from, d, to)
			leads(t, to, tuple.Back(d), from)
			if !equalDeltas(made(t, to, from), tuple.Back(d)) || tuple.Empty(d) != equal(from, to) {
				t.Fatalf("from %v to %v: %v", from, to, d)
			}
		}
	}
}

func TestP10_2AllDiffsLeadThereAndBack(t *testing.T) {
	all := sets(list("()(min)(1)(1 1)(2)"))
	for _, from := range all {
		for _, to := range all {
			d := made(t, from, to)
			leads(t, from, d, to)
			leads(t, to, tuple.Back(d), from)
		}
	}
}

func TestP10_2ThenDoesWhatBothDo(t *testing.T) {
	all := sets(few())
	for _, first := range all {
		for _, second := range all {
			for _, third := range all {
				a, b := made(t, first, second), made(t, second, third)
				both, e := tuple.Then(a, b)
				if e != api.OK {
					t.Fatalf("Then(%v, %v): %d", a, b, e)
				}
				leads(t, first, both, third)
				leads(t, third, tuple.Back(both), first)
			}
		}
	}
}

// TestP10_2ManyBehindEachOther goes through many sets, with what their deltas do in one.
func TestP10_2ManyBehindEachOther(t *testing.T) {
	r := rand.New(rand.NewSource(1005))
	for range 500 {
		first := anySet(r, 40)
		now, all := first, api.Delta{}
		for range r.Intn(12) {
			next := near(r, now)
			d := made(t, now, next)
			both, e := tuple.Then(all, d)
			if e != api.OK {
				t.Fatalf("Then(%v, %v): %d", all, d, e)
			}
			now, all = next, both
			leads(t, first, all, now)
			leads(t, now, tuple.Back(all), first)
		}
		if !equalDeltas(all, made(t, first, now)) {
			t.Fatalf("from %v to %v: %v", first, now, all)
		}
	}
}

func TestP10_2ThenInAnyGroups(t *testing.T) {
	r := rand.New(rand.NewSource(1006))
	then := func(a, b api.Delta) api.Delta {
		d, e := tuple.Then(a, b)
		if e != api.OK {
			t.Fatalf("Then(%v, %v): %d", a, b, e)
		}
		return d
	}
	for range 2000 {
		s := [][]api.Tuple{anySet(r, 20)}
		for i := range 3 {
			s = append(s, near(r, s[i]))
		}
		a, b, c := made(t, s[0], s[1]), made(t, s[1], s[2]), made(t, s[2], s[3])
		if !equalDeltas(then(then(a, b), c), then(a, then(b, c))) {
			t.Fatalf("%v, %v, %v", a, b, c)
		}
		if !equalDeltas(tuple.Back(then(a, b)), then(tuple.Back(b), tuple.Back(a))) {
			t.Fatalf("Back: %v, %v", a, b)
		}
		if !tuple.Empty(then(a, tuple.Back(a))) {
			t.Fatalf("%v and back", a)
		}
	}
}

// roomy is a list like l, that has spare room, and so has each of its tuples.
func roomy(l []api.Tuple) []api.Tuple {
	out := make([]api.Tuple, 0, len(l)+2)
	for _, u := range l {
		out = append(out, append(slices.Clone(u), 77, 78)[:len(u)])
	}
	return append(out, api.Tuple{79}, api.Tuple{80})[:len(l)]
}

// whole is all that a list has, spare room too.
func whole(l []api.Tuple) []api.Tuple {
	out := slices.Clone(l[:cap(l)])
	for i, u := range out {
		out[i] = slices.Clone(u[:cap(u)])
	}
	return out
}

// spoil changes all that a list has, spare room too.
func spoil(l []api.Tuple) {
	l = l[:cap(l)]
	for i, u := range l {
		spoilTuple(u)
		l[i] = api.Tuple{99}
	}
}

func spoilTuple(u api.Tuple) {
	u = u[:cap(u)]
	for i := range u {
		u[i] = 99
	}
}

// A call is one of the chapter's that answers lists, of four lists that are handed in.
type call struct {
	name string
	do   func(l [4][]api.Tuple) [][]api.Tuple
}

func calls() []call {
	parts := func(d api.Delta) [][]api.Tuple { return [][]api.Tuple{d.Add, d.Del} }
	return []call{
		{"Set", func(l [4][]api.Tuple) [][]api.Tuple { return [][]api.Tuple{tuple.Set(l[0])} }},
		{"Diff", func(l [4][]api.Tuple) [][]api.Tuple {
			d, _ := tuple.Diff(l[0], l[1])
			return parts(d)
		}},
		{"Apply", func(l [4][]api.Tuple) [][]api.Tuple {
			s, _ := tuple.Apply(l[0], api.Delta{Add: l[1], Del: l[2]})
			return [][]api.Tuple{s}
		}},
		{"Then", func(l [4][]api.Tuple) [][]api.Tuple {
			d, _ := tuple.Then(api.Delta{Add: l[0], Del: l[1]}, api.Delta{Add: l[2], Del: l[3]})
			return parts(d)
		}},
		{"Back", func(l [4][]api.Tuple) [][]api.Tuple { return parts(tuple.Back(api.Delta{Add: l[0], Del: l[1]})) }},
	}
}

// cases are lists that are handed in: some that fit, some that are refused.
func cases() [][4]string {
	return [][4]string{
		{"", "", "", ""}, {"()", "", "()", ""}, {"(1)", "(2)", "(1)", "(3)"}, {"(1)(2)(3)", "(4)(5)", "(1)(3)", "(6)"},
		{"()(1)(2)", "(3)(4)", "(1)", "()"}, {"(1)(2)", "(3 3)(4)", "(3 3)", "(1)(5)"}, {"(1 2 3)(4 5 6 7)", "(8)", "", "(1 2 3)"}, {"(1)(2 3)", "", "", ""}, {"", "(1)(2 3)", "", ""},
		{"(1)(2)", "(1)(2)", "(1)(2)", "(1)(2)"}, {"(2)(1)", "(2)(1)", "(2)(1)", "(2)(1)"}, {"(1)(1)(1 2)(1 2)", "(3)", "(4)", "(5)"}, {"(1)", "(3)(2)", "(1)", "(6)(6)"}, {"(9)(8 8)(7)(8 8)()", "", "", ""},
	}
}

func handed(c [4]string) [4][]api.Tuple {
	var out [4][]api.Tuple
	for i, s := range c {
		out[i] = roomy(list(s))
	}
	return out
}

// wholes is all that the lists have.
func wholes(l [4][]api.Tuple) []api.Tuple {
	return slices.Concat(whole(l[0]), whole(l[1]), whole(l[2]), whole(l[3]))
}

// are tells whether lists are like those of another answer.
func are(a, b [][]api.Tuple) bool { return slices.EqualFunc(a, b, equal) }

// kept is a copy of an answer, that is the test's own.
func kept(a [][]api.Tuple) [][]api.Tuple {
	var out [][]api.Tuple
	for _, l := range a {
		own := make([]api.Tuple, len(l))
		for i, u := range l {
			own[i] = slices.Clone(u)
		}
		out = append(out, own)
	}
	return out
}

func TestP10_3WhatIsHandedInStays(t *testing.T) {
	for _, c := range cases() {
		for _, f := range calls() {
			l, fresh := handed(c), wholes(handed(c))
			f.do(l)
			if !equal(wholes(l), fresh) {
				t.Errorf("%s of %v: %v", f.name, c, wholes(l))
			}
		}
		l, fresh := handed(c), wholes(handed(c))
		for _, of := range l {
			tuple.Rises(of)
			tuple.Empty(api.Delta{Add: of, Del: of})
			for _, u := range of {
				tuple.Has(of, u)
				tuple.Cmp(u, of[0])
			}
		}
		if !equal(wholes(l), fresh) {
			t.Errorf("%v: %v", c, wholes(l))
		}
	}
}

func TestP10_3AnswersMayBeChanged(t *testing.T) {
	for _, c := range cases() {
		for _, f := range calls() {
			l, fresh := handed(c), wholes(handed(c))
			first, second := f.do(l), f.do(l)
			want := kept(first)
			for _, a := range first {
				spoil(a)
			}
			if !equal(wholes(l), fresh) {
				t.Errorf("%s of %v: what was handed in is %v", f.name, c, wholes(l))
			}
			if later := f.do(l); !are(second, want) || !are(later, want) {
				t.Errorf("%s of %v: other answers: %v, %v, want %v", f.name, c, second, later, want)
			}
		}
	}
}

func TestP10_3WhatWasHandedInMayBeChanged(t *testing.T) {
	for _, c := range cases() {
		for _, f := range calls() {
			l := handed(c)
			got := f.do(l)
			want := kept(got)
			for _, of := range l {
				spoil(of)
			}
			if later := f.do(handed(c)); !are(got, want) || !are(later, want) {
				t.Errorf("%s of %v: %v, %v, want %v", f.name, c, got, later, want)
			}
		}
	}
}

// sharedOnes are lists of the same tuples, and of pieces of each other.
func sharedOnes() [4][]api.Tuple {
	u := api.Tuple{1, 2, 3, 4}
	of := []api.Tuple{u[:1], u[:2], u[:3], u, u[1:], u[2:]}
	return [4][]api.Tuple{of[:4], of[4:], of[1:3], of[5:]}
}

func TestP10_3NoTwoListsOfAnAnswerShare(t *testing.T) {
	given := [][4][]api.Tuple{sharedOnes()}
	s := sharedOnes()
	given = append(given, [4][]api.Tuple{s[0], s[0], nil, nil}, [4][]api.Tuple{append(slices.Clone(s[0]), s[0]...), s[0][:3], nil, nil})
	for _, c := range cases() {
		given = append(given, handed(c))
	}
	for _, l := range given {
		for _, f := range calls() {
			for i, of := range kept(f.do(l)) {
				for j := range of {
					apart(t, f, l, i, j)
				}
				apart(t, f, l, i, -1)
			}
		}
	}
}

// apart holds an answer to stay as it is but for one list, the i-th of them, or but for that list's j-th tuple.
func apart(t *testing.T, f call, l [4][]api.Tuple, i, j int) {
	t.Helper()
	got, before := f.do(l), wholes(l)
	want := kept(got)
	if j < 0 {
		spoil(got[i])
		got[i] = want[i]
	} else {
		spoilTuple(got[i][j])
		got[i][j] = want[i][j]
	}
	if !are(got, want) || !equal(wholes(l), before) {
		t.Errorf("%s of %v, list %d, tuple %d: %v, want %v", f.name, l, i, j, got, want)
	}
}

// TestP10_3Alike has the same calls between others.
func TestP10_3Alike(t *testing.T) {
	first := map[string][][]api.Tuple{}
	for range 3 {
		for _, c := range cases() {
			for _, f := range calls() {
				name := f.name + c[0] + ";" + c[1] + ";" + c[2] + ";" + c[3]
				got := kept(f.do(handed(c)))
				if was, ok := first[name]; ok && !are(got, was) {
					t.Errorf("%s: %v, %v", name, got, was)
				}
				first[name] = got
			}
		}
	}
}
