package net_test

import (
	"fmt"
	"math/rand"
	"slices"
	"testing"
	"unsafe"

	"rhizome/api"
	"rhizome/net"
)

// roomy is a list like l, with spare room in which something stands.
func roomy[T any](l []T, spare T) []T {
	return append(append(make([]T, 0, len(l)+2), l...), spare, spare)[:len(l)]
}

// whole is all that a list has, spare room too.
func whole[T any](l []T) string { return fmt.Sprint(len(l), l[:cap(l)]) }

// spoil changes all that a list has, spare room too.
func spoil[T any](l []T, with T) {
	l = l[:cap(l)]
	for i := range l {
		l[i] = with
	}
}

func spoilTuples(l []api.Tuple) {
	for _, u := range l {
		spoil(u, 99)
	}
	spoil(l, api.Tuple{98})
}

func roomyEdges(l []api.Edge) []api.Edge { return roomy(l, api.Edge{From: 1, Label: "a", To: 1}) }

func spoilEdges(l []api.Edge) { spoil(l, api.Edge{From: 9, Label: "a", To: 9}) }

func roomyView(v api.View) api.View {
	v.Out, v.Atoms = roomy(v.Out, "spare"), roomy(v.Atoms, api.Atom{From: "spare", Label: "a", To: "room"})
	return v
}

func spoilView(v api.View) {
	spoil(v.Out, "q")
	spoil(v.Atoms, api.Atom{From: "q", Label: "a", To: "q"})
}

func wholeView(v api.View) string {
	return fmt.Sprint(v.Name, v.Kind, v.Label, whole(v.Out), whole(v.Atoms))
}

func TestP12_3WhatIsHandedInToNewStays(t *testing.T) {
	views := append(bad(), pattern("(x) = a(x, y)"), pattern("(z, x) = a(x, y), b(y, z), a(x, x)"))
	for _, v := range views {
		for _, edges := range [][]api.Edge{nil, graph("1 a 2, 2 b 3, 1 a 1, 1 a 2"), grid("a", 3001)} {
			v, edges := roomyView(v), roomyEdges(edges)
			of, in := wholeView(v), whole(edges)
			net.New(v, edges)
			if wholeView(v) != of || whole(edges) != in {
				t.Errorf("%s, %s, were %s, %s", wholeView(v), whole(edges), of, in)
			}
		}
	}
}

func TestP12_3WhatIsHandedInToTheOthersStays(t *testing.T) {
	k := made(t, pattern("(x, z) = a(x, y), b(y, z)"), append(hubs("a", 30, 1), fans(1, "b", 99)...))
	for _, add := range []bool{true, false, true} {
		for _, s := range []string{"", "1 a 2, 2 b 3, 1 a 1", "1 c 2", "1 a 2, 1 a 2", "200 a 1", "7 a 1, 8 a 1", "2 b 3, 9 a 9"} {
			edges := roomyEdges(graph(s))
			in := whole(edges)
			k.net.Do(edges, add)
			if whole(edges) != in {
				t.Errorf("Do: %s, was %s", whole(edges), in)
			}
		}
	}
	for _, s := range []string{"(200 500)", "(1 2)", "(1)", "(200 500 1)"} {
		u := roomy(list(s)[0], 77)
		as := whole(u)
		k.net.Count(u)
		if whole(u) != as {
			t.Errorf("Count: %s, was %s", whole(u), as)
		}
	}
}

// TestP12_3WhatWasHandedInMayBeChanged spoils all that was handed in, behind each call.
func TestP12_3WhatWasHandedInMayBeChanged(t *testing.T) {
	r := rand.New(rand.NewSource(1208))
	for range 300 {
		nodes := 1 + r.Intn(5)
		v, edges := drawnPattern(r, 4, 4), drawnEdges(r, nodes, 14)
		k := made(t, v, edges)
		handedView, handed := roomyView(v), roomyEdges(edges)
		k.net, _ = net.New(handedView, handed)
		spoilView(handedView)
		spoilEdges(handed)
		k.holds(t)
		for range 12 {
			add, edges := r.Intn(2) == 0, others(drawnEdges(r, nodes, 4), k.edges)
			if !add {
				edges = some(r, 3, k.edges)
			}
			want := k.toldError(edges, add)
			handed := roomyEdges(edges)
			d, e := k.net.Do(handed, add)
			spoilEdges(handed)
			if e != want {
				t.Fatalf("Do of %s, %v, %v: %d, want %d", k.told(), edges, add, e, want)
			}
			if e == api.OK {
				k.edges = append(k.edges, edges...)
			}
			if !add {
				k.edges = slices.DeleteFunc(k.edges, func(e api.Edge) bool { return slices.Contains(edges, e) })
			}
			k.leads(t, d)
		}
	}
}

// TestP12_3CountsTupleMayBeChanged asks for the count of a tuple that is another one then.
func TestP12_3CountsTupleMayBeChanged(t *testing.T) {
	k := made(t, pattern("(x, y) = a(x, y), b(y, z)"), graph("1 a 2, 2 b 3, 2 b 4"))
	u := roomy(api.Tuple{1, 2}, 77)
	if got := k.net.Count(u); got != 2 {
		t.Errorf("%d", got)
	}
	spoil(u, 99)
	if got := k.net.Count(u); got != 0 {
		t.Errorf("%d", got)
	}
	k.is(t, "(1 2)", lists(2), lists(1, 2))
}

// TestP12_3NoTextIsKept has texts whose bytes are changed behind a call.
func TestP12_3NoTextIsKept(t *testing.T) {
	b := []byte("axc")
	label, name, other := unsafe.String(&b[0], 1), unsafe.String(&b[1], 1), unsafe.String(&b[2], 1)
	v := api.View{Name: label, Kind: api.KPattern, Out: []string{name}, Atoms: []api.Atom{{From: name, Label: label, To: "y"}}}
	n, e := net.New(v, []api.Edge{{From: 1, Label: label, To: 2}, {From: 1, Label: other, To: 2}})
	if e != api.OK {
		t.Fatal(e)
	}
	k := &kept{net: n, view: pattern("(x) = a(x, y)"), edges: graph("1 a 2, 1 c 2")}
	copy(b, "byd")
	k.applied = k.holds(t)
	k.refused(t, graph("1 a 2"), true, api.ErrTwice)
	k.refused(t, graph("1 c 2"), true, api.ErrTwice)
	k.refused(t, graph("1 b 2"), false, api.ErrNone)
	k.done(t, "3 b 4", true, "", "")
	copy(b, "axc")
	if _, e := n.Do([]api.Edge{{From: 5, Label: label, To: 6}, {From: 5, Label: other, To: 6}}, true); e != api.OK {
		t.Fatal(e)
	}
	copy(b, "byd")
	k.edges = append(k.edges, graph("5 a 6, 5 c 6")...)
	k.applied = k.holds(t)
	k.refused(t, graph("5 c 6"), true, api.ErrTwice)
	k.done(t, "1 c 2, 5 c 6, 5 a 6, 1 a 2", false, "", "(1)(5)")
	k.done(t, "1 a 2", true, "(1)", "")
}

// TestP12_3AnswersMayBeChanged spoils each answer.
func TestP12_3AnswersMayBeChanged(t *testing.T) {
	r := rand.New(rand.NewSource(1209))
	for range 300 {
		nodes := 1 + r.Intn(5)
		k := made(t, drawnPattern(r, 4, 4), drawnEdges(r, nodes, 14))
		for range 12 {
			add, edges := r.Intn(2) == 0, others(drawnEdges(r, nodes, 4), k.edges)
			if !add {
				edges = some(r, 3, k.edges)
			}
			handed := roomyEdges(edges)
			in := whole(handed)
			d, e := k.net.Do(handed, add)
			spoilTuples(d.Add)
			spoilTuples(d.Del)
			spoilTuples(k.net.Read())
			spoil(k.net.Levels(), 97)
			if whole(handed) != in {
				t.Fatalf("the answers share with what was handed in: %s, was %s", whole(handed), in)
			}
			if e == api.OK && add {
				k.edges = append(k.edges, edges...)
			}
			if !add {
				k.edges = slices.DeleteFunc(k.edges, func(e api.Edge) bool { return slices.Contains(edges, e) })
			}
			k.holds(t)
		}
	}
}

// TestP12_3NoTwoListsOfAnAnswerShare changes one tuple of an answer, and holds all others of it to be as they were.
func TestP12_3NoTwoListsOfAnAnswerShare(t *testing.T) {
	apart := func(name string, l []api.Tuple, want string) {
		if !equal(l, list(want)) {
			t.Fatalf("%s: %v, want %s", name, l, want)
		}
		for i := range l {
			was := slices.Clone(l[i])
			spoil(l[i], 99)
			l[i] = was
			if !equal(l, list(want)) {
				t.Errorf("%s: %v, want %s", name, l, want)
			}
		}
	}
	edges, all := graph("1 a 2, 3 a 2, 2 b 4, 2 b 5"), "(1 4)(1 5)(3 4)(3 5)"
	k := made(t, pattern("(x, z) = a(x, y), b(y, z)"), nil)
	for range 2 {
		d, _ := k.net.Do(edges, true)
		apart("Add", d.Add, all)
		apart("Read", k.net.Read(), all)
		first, second := k.net.Read(), k.net.Read()
		spoilTuples(first)
		apart("Read", second, all)
		some, others := k.net.Levels(), k.net.Levels()
		spoil(some, 97)
		if !slices.Equal(others, lists(2, 4)) {
			t.Errorf("Levels: %v", others)
		}
		d, _ = k.net.Do(edges, false)
		apart("Del", d.Del, all)
	}
}

// TestP12_3AnEarlierAnswerStays has answers that later calls leave as they are.
func TestP12_3AnEarlierAnswerStays(t *testing.T) {
	k := made(t, pattern("(x, z) = a(x, y), b(y, z)"), graph("1 a 2, 2 b 4"))
	d, _ := k.net.Do(graph("3 a 2"), true)
	read, levels := k.net.Read(), k.net.Levels()
	gone, _ := k.net.Do(graph("1 a 2"), false)
	k.net.Do(graph("7 a 2, 2 b 8, 1 a 2"), true)
	k.net.Do(graph("3 a 2"), false)
	if !equalDeltas(d, api.Delta{Add: list("(3 4)")}) || !equalDeltas(gone, api.Delta{Del: list("(1 4)")}) {
		t.Errorf("%v, %v", d, gone)
	}
	if !equal(read, list("(1 4)(3 4)")) || !slices.Equal(levels, lists(2, 2)) {
		t.Errorf("%v, %v", read, levels)
	}
}

// TestP12_3TwoNets has nets of the same view and edges, of which each goes its own way.
func TestP12_3TwoNets(t *testing.T) {
	v, edges := pattern("(x, z) = a(x, y), b(y, z)"), graph("1 a 2, 2 b 4")
	a, b := made(t, v, edges), made(t, v, edges)
	a.done(t, "3 a 2", true, "(3 4)", "")
	b.done(t, "1 a 2", false, "", "(1 4)")
	a.done(t, "2 b 4", false, "", "(1 4)(3 4)")
	b.done(t, "3 a 2, 2 b 5", true, "(3 4)(3 5)", "")
	a.is(t, "", nil, lists(2, 0))
	b.is(t, "(3 4)(3 5)", lists(1, 1), lists(1, 2))
}

// TestP12_3Alike has the same calls between others.
func TestP12_3Alike(t *testing.T) {
	var first []string
	for range 3 {
		r := rand.New(rand.NewSource(1210))
		for i := range 200 {
			k := made(t, drawnPattern(r, 4, 5), drawnEdges(r, 4, 14))
			d, e := k.net.Do(drawnEdges(r, 4, 4), true)
			f, g := k.net.Do(some(r, 3, k.edges), false)
			got := fmt.Sprint(d, e, f, g, k.net.Read(), k.net.Levels(), k.net.Rows())
			if len(first) <= i {
				first = append(first, got)
			}
			if got != first[i] {
				t.Errorf("%s: %s, %s", k.told(), got, first[i])
			}
		}
	}
}
