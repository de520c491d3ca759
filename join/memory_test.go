package join_test

import (
	"fmt"
	"math/rand"
	"slices"
	"testing"
	"unsafe"

	"rhizome/api"
	"rhizome/join"
)

// handed is what the calls are handed in, with spare room in each list.
type handed struct {
	view  api.View
	edges []api.Edge
	row   api.Tuple
}

// roomy is a list like l, with spare room in which something stands.
func roomy[T any](l []T, spare T) []T {
	return append(append(make([]T, 0, len(l)+2), l...), spare, spare)[:len(l)]
}

func hand(v api.View, edges []api.Edge, row api.Tuple) handed {
	v.Out = roomy(v.Out, "spare")
	v.Atoms = roomy(v.Atoms, api.Atom{From: "spare", Label: "a", To: "room"})
	return handed{v, roomy(edges, api.Edge{From: 1, Label: "a", To: 1}), roomy(row, 77)}
}

// whole is all that is handed in, spare room too.
func (h handed) whole() string {
	v := h.view
	return fmt.Sprint(v.Name, v.Kind, v.Label, len(v.Out), v.Out[:cap(v.Out)], len(v.Atoms), v.Atoms[:cap(v.Atoms)],
		len(h.edges), h.edges[:cap(h.edges)], len(h.row), h.row[:cap(h.row)])
}

// spoil changes all that a list has, spare room too.
func spoil[T any](l []T, with T) {
	l = l[:cap(l)]
	for i := range l {
		l[i] = with
	}
}

// answer is what all calls answer.
type answer struct {
	rows, result []api.Tuple
	counts       []int
	e, f         api.Errno
	holds        bool
}

func (h handed) ask() answer {
	var a answer
	a.rows, a.e = join.Rows(h.view, h.edges)
	a.result, a.counts, a.f = join.Result(h.view, h.edges)
	a.holds = join.Holds(h.view, h.edges, h.row)
	return a
}

// text tells all of it.
func (a answer) text() string {
	return fmt.Sprint(len(a.rows), a.rows, len(a.result), a.result, a.counts, a.e, a.f, a.holds)
}

// cases are what is handed in: of each kind of answer.
func cases() []handed {
	var out []handed
	for _, c := range []struct{ s, edges, row string }{
		{"(x, y) = a(x, z), a(z, y)", "1 a 2, 2 a 3, 1 a 3", "(1 2 3)"}, {"(x, y) = a(x, z), a(z, y)", "3 a 4, 1 a 2, 2 a 3, 1 a 3", "(1 2)"},
		{"(x) = a(x, y)", "1 a 2, 2 a 3, 1 a 3, 1 a 2", "(1 3)"}, {"(x, y) = a(x, y)", "2 a 3, 1 a 2, 2 a 3", "(3 1)"}, {"(x) = a(x, x)", "3 a 3, 1 a 1, 2 a 1", "(1)"},
		{"(z, x) = b(z, x), a(y, y), c(x, w)", "4 a 4, 2 b 1, 1 c 7, 1 c 8, 5 a 5, 4 a 4", "(2 1 4 7)"}, {"(x) = a(x, y), b(z, z)", "1 a 2", "(1 2 3)"}, {"(x) = a(x, y)", "", "(1 2)"},
	} {
		out = append(out, hand(pattern(c.s), graph(c.edges), list(c.row)[0]))
	}
	out = append(out, hand(pattern("(x) = a(x, y)"), grid("a", 3001), api.Tuple{1, 101}), hand(api.View{Name: "r", Kind: api.KReach, Label: "a"}, graph("1 a 2"), api.Tuple{1, 2}))
	r := rand.New(rand.NewSource(1109))
	for range 60 {
		v, g := drawnPattern(r, 5, 5), drawnEdges(r, 16)
		row := append(toldRows(v.Atoms, g), api.Tuple{1, 2, 3})[0]
		out = append(out, hand(v, g, row))
	}
	return out
}

func TestP11_3WhatIsHandedInStays(t *testing.T) {
	for _, h := range cases() {
		before := h.whole()
		h.ask()
		if h.whole() != before {
			t.Errorf("%s was %s", h.whole(), before)
		}
	}
	for _, v := range bad() {
		h := hand(v, graph("1 a 2"), api.Tuple{1, 2})
		before := h.whole()
		h.ask()
		if h.whole() != before {
			t.Errorf("%s was %s", h.whole(), before)
		}
	}
}

func TestP11_3AnswersMayBeChanged(t *testing.T) {
	for _, h := range cases() {
		before := h.whole()
		first, second := h.ask(), h.ask()
		want := first.text()
		for _, l := range [][]api.Tuple{first.rows, first.result} {
			for _, u := range l {
				spoil(u, 99)
			}
			spoil(l, api.Tuple{98})
		}
		spoil(first.counts, 97)
		if h.whole() != before {
			t.Errorf("what was handed in is %s, was %s", h.whole(), before)
		}
		if later := h.ask(); second.text() != want || later.text() != want {
			t.Errorf("%s: other answers: %s, %s, want %s", before, second.text(), later.text(), want)
		}
	}
}

func TestP11_3WhatWasHandedInMayBeChanged(t *testing.T) {
	again := cases()
	for i, h := range cases() {
		got := h.ask()
		want := got.text()
		spoil(h.view.Out, "y")
		spoil(h.view.Atoms, api.Atom{From: "y", Label: "a", To: "y"})
		spoil(h.edges, api.Edge{From: 9, Label: "a", To: 9})
		spoil(h.row, 99)
		if later := again[i].ask(); got.text() != want || later.text() != want {
			t.Errorf("%s: %s, %s, want %s", again[i].whole(), got.text(), later.text(), want)
		}
	}
}

// TestP11_3NoTwoListsOfAnAnswerShare changes one list of an answer, and holds all others of it to be as they were.
func TestP11_3NoTwoListsOfAnAnswerShare(t *testing.T) {
	for _, h := range cases() {
		want := h.ask()
		for i := range min(len(want.rows), 50) {
			got, _ := join.Rows(h.view, h.edges)
			spoil(got[i], 99)
			got[i] = want.rows[i]
			if !equal(got, want.rows) {
				t.Errorf("%s: %v, want %v", h.whole(), got, want.rows)
			}
		}
		for i := range min(len(want.result), 50) {
			got, counts, _ := join.Result(h.view, h.edges)
			spoil(got[i], 99)
			got[i] = want.result[i]
			if !equal(got, want.result) || !slices.Equal(counts, want.counts) {
				t.Errorf("%s: %v, %v, want %v, %v", h.whole(), got, counts, want.result, want.counts)
			}
		}
		got, counts, _ := join.Result(h.view, h.edges)
		spoil(counts, 99)
		if !equal(got, want.result) {
			t.Errorf("%s: %v, want %v", h.whole(), got, want.result)
		}
		_, counts, _ = join.Result(h.view, h.edges)
		spoil(got, api.Tuple{99})
		if !slices.Equal(counts, want.counts) {
			t.Errorf("%s: %v, want %v", h.whole(), counts, want.counts)
		}
	}
}

// TestP11_3NoTextIsKept has texts whose bytes are changed behind a call.
func TestP11_3NoTextIsKept(t *testing.T) {
	b := []byte("ax")
	label, name := unsafe.String(&b[0], 1), unsafe.String(&b[1], 1)
	v := api.View{Name: label, Kind: api.KPattern, Out: []string{name}, Atoms: []api.Atom{{From: name, Label: label, To: "y"}}}
	g := []api.Edge{{From: 1, Label: label, To: 2}, {From: 1, Label: "b", To: 3}}
	answers(t, v, g, list("(1 2)"), list("(1)"), []int{1})
	copy(b, "by")
	answers(t, v, g[1:], list(""), list(""), nil) // b(y, y)
	answers(t, v, append(g, graph("4 b 4, 5 a 5")...), list("(4)"), list("(4)"), []int{1})
}

// TestP11_3Alike has the same calls between others.
func TestP11_3Alike(t *testing.T) {
	var first []string
	for range 3 {
		for i, h := range cases() {
			got := h.ask().text()
			if len(first) <= i {
				first = append(first, got)
			}
			if got != first[i] {
				t.Errorf("%s: %s, %s", h.whole(), got, first[i])
			}
		}
	}
}
