package span_test

import (
	"fmt"
	"math/rand"
	"slices"
	"testing"
	"unsafe"

	"rhizome/api"
	"rhizome/span"
)

// roomy is a list like l, with spare room in which edges stand that would change each answer.
func roomy(l []api.Edge) []api.Edge {
	out := append(make([]api.Edge, 0, len(l)+4), l...)
	return append(out, graph("3 a 1, 1 a 1, 2 a 2, 7 a 7")...)[:len(l)]
}

// whole is all that a list has, spare room too.
func whole(l []api.Edge) string { return fmt.Sprint(len(l), l[:cap(l)]) }

// spoil changes all that a list has, spare room too.
func spoil[T any](l []T, with T) {
	l = l[:cap(l)]
	for i := range l {
		l[i] = with
	}
}

// answer is what all calls answer of a list of edges.
type answer struct {
	pairs []api.Tuple
	ways  [][]int
	rings [][]int
	errs  []api.Errno
}

func ask(edges []api.Edge) answer {
	var a answer
	var e api.Errno
	a.pairs, e = span.Pairs("a", edges)
	a.errs = append(a.errs, e)
	a.rings, e = span.Rings("a", edges)
	a.errs = append(a.errs, e)
	for i := range 16 {
		way, e := span.Way("a", edges, 1+i/4, 1+i%4)
		a.ways, a.errs = append(a.ways, way), append(a.errs, e)
	}
	return a
}

// text tells all of it.
func (a answer) text() string { return fmt.Sprint(len(a.pairs), a.pairs, a.ways, a.rings, a.errs) }

// spoil changes all that it has.
func (a answer) spoil() {
	for _, u := range a.pairs {
		spoil(u, 99)
	}
	spoil(a.pairs, api.Tuple{98})
	for _, l := range slices.Concat(a.ways, a.rings) {
		spoil(l, 97)
	}
	spoil(a.rings, []int{96})
}

// cases are lists of edges, in no order, with some twice: of each kind of answer.
func cases() [][]api.Edge {
	out := [][]api.Edge{nil, ring("a", 64, 1, 1), append(ring("a", 63, 1, 1), apart("a", 31, 101)...)}
	for _, s := range []string{
		"1 a 2", "1 a 1", "2 a 3, 1 a 2, 2 a 3", "1 a 2, 2 a 3, 3 a 2", "3 a 1, 2 a 3, 1 a 2", "4 a 3, 3 a 4, 2 a 1, 1 a 2", "1 b 2, 2 b 1", "4 a 4, 3 b 2, 2 a 2, 4 a 4, 1 a 2, 9 aa 1",
		"4 a 2, 1 a 4, 2 a 1, 3 a 9, 9 a 3, 1 a 3, 5 a 5",
	} {
		out = append(out, graph(s))
	}
	r := rand.New(rand.NewSource(1312))
	for range 100 {
		out = append(out, drawn(r, 14, 6))
	}
	return out
}

func TestP13_3WhatIsHandedInStays(t *testing.T) {
	for _, c := range cases() {
		l := roomy(c)
		before := whole(l)
		ask(l)
		for _, label := range []string{"b", "c", "", "A"} {
			span.Pairs(label, l)
			span.Way(label, l, 1, 2)
			span.Rings(label, l)
		}
		if whole(l) != before {
			t.Errorf("%s was %s", whole(l), before)
		}
	}
}

func TestP13_3AnswersMayBeChanged(t *testing.T) {
	for _, c := range cases() {
		l := roomy(c)
		before := whole(l)
		first, second := ask(l), ask(l)
		want := first.text()
		first.spoil()
		if whole(l) != before {
			t.Errorf("what was handed in is %s, was %s", whole(l), before)
		}
		if later := ask(l); second.text() != want || later.text() != want {
			t.Errorf("%s: other answers: %s, %s, want %s", before, second.text(), later.text(), want)
		}
	}
}

func TestP13_3WhatWasHandedInMayBeChanged(t *testing.T) {
	for _, c := range cases() {
		l := roomy(c)
		got := ask(l)
		want := got.text()
		spoil(l, api.Edge{From: 2, Label: "a", To: 1})
		if later := ask(roomy(c)); got.text() != want || later.text() != want {
			t.Errorf("%s: %s, %s, want %s", brief(c), got.text(), later.text(), want)
		}
	}
}

// TestP13_3NoTwoListsOfAnAnswerShare changes one list of an answer, and holds all others of it to be as they were.
func TestP13_3NoTwoListsOfAnAnswerShare(t *testing.T) {
	for _, c := range cases() {
		want := ask(c)
		for i := range min(len(want.pairs), 70) {
			got, _ := span.Pairs("a", c)
			spoil(got[i], 99)
			got[i] = want.pairs[i]
			if !equal(got, want.pairs) {
				t.Errorf("%s, tuple %d: %s, want %s", brief(c), i, brief(got), brief(want.pairs))
			}
		}
		for i := range want.rings {
			got, _ := span.Rings("a", c)
			spoil(got[i], 99)
			got[i] = want.rings[i]
			if !equal(got, want.rings) {
				t.Errorf("%s, ring %d: %s, want %s", brief(c), i, brief(got), brief(want.rings))
			}
		}
	}
}

// TestP13_3NoTextIsKept has texts whose bytes are changed behind a call.
func TestP13_3NoTextIsKept(t *testing.T) {
	b := []byte("a")
	label := unsafe.String(&b[0], 1)
	g := append(graph("2 a 3, 3 b 4, 4 b 1"), api.Edge{From: 1, Label: label, To: 2})
	spans(t, label, g, list("(1 2)(1 3)(2 3)"))
	leads(t, label, g, 1, 3, []int{1, 2, 3})
	b[0] = 'b'
	spans(t, label, g, list("(1 2)(3 1)(3 2)(3 4)(4 1)(4 2)"))
	spans(t, "a", g, list("(2 3)"))
	leads(t, label, g, 3, 2, []int{3, 4, 1, 2})
	leads(t, "a", g, 1, 3, nil)
}

// TestP13_3Alike has the same calls between others.
func TestP13_3Alike(t *testing.T) {
	var first []string
	for range 3 {
		for i, c := range cases() {
			got := ask(c).text()
			if len(first) <= i {
				first = append(first, got)
			}
			if got != first[i] {
				t.Errorf("%s: %s, %s", brief(c), got, first[i])
			}
		}
	}
}
