package dred_test

import (
	"fmt"
	"math/rand"
	"slices"
	"testing"
	"unsafe"

	"rhizome/api"
	"rhizome/dred"
)

// roomy is a list like l, with spare room in which edges stand that would change each answer.
func roomy(l []api.Edge) []api.Edge {
	out := append(make([]api.Edge, 0, len(l)+3), l...)
	return append(out, graph("3 a 1, 1 a 1, 7 a 7")...)[:len(l)]
}

// whole is all that a list has, spare room too.
func whole(l []api.Edge) string { return fmt.Sprint(len(l), l[:cap(l)]) }

// spoil changes all that a list has, spare room too.
func spoil[T any](l []T, with T) {
	l = l[:cap(l)]
	for i := range l {
		l[i] = with
	}
}

func spoilEdges(l []api.Edge) { spoil(l, api.Edge{From: 2, Label: "a", To: 1}) }

func spoilTuples(l []api.Tuple) {
	for _, u := range l {
		spoil(u, 99)
	}
	spoil(l, api.Tuple{98})
}

func TestP14_3WhatIsHandedInStays(t *testing.T) {
	lists := [][]api.Edge{nil, ring(64, 1, 1), append(ring(63, 1, 1), apart(31, 5001)...)}
	for _, s := range []string{"1 a 2", "3 a 1, 2 a 3, 1 a 2", "4 a 4, 3 b 2, 2 a 2, 4 a 4, 1 a 2, 9 aa 1", "2 b 3, 2 b 3", "9 a 9, 1 a 2, 8 a 1", "1 a 2, 1 a 2"} {
		lists = append(lists, graph(s))
	}
	for _, first := range lists {
		for _, label := range []string{"a", "b", "", "A"} {
			edges := roomy(first)
			in := whole(edges)
			d, e := dred.New(label, edges)
			if whole(edges) != in {
				t.Errorf("New: %s, was %s", whole(edges), in)
			}
			if e != api.OK {
				continue
			}
			for _, add := range []bool{true, false, true} {
				for _, l := range lists {
					edges := roomy(l)
					in := whole(edges)
					d.Do(edges, add)
					if whole(edges) != in {
						t.Errorf("Do: %s, was %s", whole(edges), in)
					}
				}
			}
		}
	}
}

// drawnList is a list for Do, most of which may come, or go.
func (k *kept) drawnList(r *rand.Rand, nodes int) ([]api.Edge, bool) {
	if r.Intn(2) == 0 {
		return some(r, 3, k.edges), false
	}
	return others(drawnEdges(r, nodes, 4), k.edges), true
}

// TestP14_3WhatWasHandedInMayBeChanged spoils all that was handed in, behind each call.
func TestP14_3WhatWasHandedInMayBeChanged(t *testing.T) {
	r := rand.New(rand.NewSource(1408))
	for range 400 {
		nodes := 1 + r.Intn(8)
		edges := drawnEdges(r, nodes, 14)
		k := made(t, edges)
		handed := roomy(edges)
		k.dred, _ = dred.New("a", handed)
		spoilEdges(handed)
		k.holds(t)
		for range 12 {
			edges, add := k.drawnList(r, nodes)
			handed := roomy(edges)
			d, e := k.dred.Do(handed, add)
			spoilEdges(handed)
			if e != api.OK {
				t.Fatalf("Do of %s, %v, %v: %d", k.told(), edges, add, e)
			}
			k.changed(edges, add)
			k.newOver(t, add)
			k.leads(t, d)
		}
	}
}

// TestP14_3AnswersMayBeChanged spoils each answer.
func TestP14_3AnswersMayBeChanged(t *testing.T) {
	r := rand.New(rand.NewSource(1409))
	for range 400 {
		nodes := 1 + r.Intn(8)
		k := made(t, drawnEdges(r, nodes, 14))
		for range 12 {
			edges, add := k.drawnList(r, nodes)
			handed := roomy(edges)
			in := whole(handed)
			d, e := k.dred.Do(handed, add)
			if e != api.OK {
				t.Fatalf("Do of %s, %v, %v: %d", k.told(), edges, add, e)
			}
			spoilTuples(d.Add)
			spoilTuples(d.Del)
			spoilTuples(k.dred.Read())
			if whole(handed) != in {
				t.Fatalf("the answers share with what was handed in: %s, was %s", whole(handed), in)
			}
			k.changed(edges, add)
			k.newOver(t, add)
			k.holds(t)
		}
	}
}

// TestP14_3NoTwoListsOfAnAnswerShare changes one tuple of an answer, and holds all others of it to be as they were.
func TestP14_3NoTwoListsOfAnAnswerShare(t *testing.T) {
	apart := func(name string, l []api.Tuple, want string) {
		t.Helper()
		if !equal(l, list(want)) {
			t.Fatalf("%s: %v, want %s", name, l, want)
		}
		for i := range l {
			was := slices.Clone(l[i])
			spoil(l[i], 99)
			l[i] = was
			if !equal(l, list(want)) {
				t.Errorf("%s: %v, want %s", name, l, want)
			}
		}
	}
	edges, all := graph("1 a 2, 2 a 3, 3 a 2, 4 a 1"), "(1 2)(1 3)(2 2)(2 3)(3 2)(3 3)(4 1)(4 2)(4 3)"
	k := made(t, nil)
	for range 2 {
		d, _ := k.dred.Do(edges, true)
		apart("Add", d.Add, all)
		apart("Read", k.dred.Read(), all)
		first, second := k.dred.Read(), k.dred.Read()
		spoilTuples(first)
		apart("Read", second, all)
		d, _ = k.dred.Do(edges, false)
		apart("Del", d.Del, all)
	}
}

// TestP14_3AnEarlierAnswerStays has answers that later calls leave as they are.
func TestP14_3AnEarlierAnswerStays(t *testing.T) {
	k := made(t, graph("1 a 2, 2 a 3"))
	d, _ := k.dred.Do(graph("3 a 4"), true)
	read := k.dred.Read()
	gone, _ := k.dred.Do(graph("2 a 3"), false)
	k.dred.Do(graph("4 a 1, 2 a 3, 9 a 9"), true)
	k.dred.Do(graph("3 a 4"), false)
	if !equalDeltas(d, api.Delta{Add: list("(1 4)(2 4)(3 4)")}) || !equalDeltas(gone, api.Delta{Del: list("(1 3)(1 4)(2 3)(2 4)")}) {
		t.Errorf("%v, %v", d, gone)
	}
	if !equal(read, list("(1 2)(1 3)(1 4)(2 3)(2 4)(3 4)")) {
		t.Errorf("%v", read)
	}
}

// TestP14_3NoTextIsKept has texts whose bytes are changed behind a call.
func TestP14_3NoTextIsKept(t *testing.T) {
	b := []byte("aa")
	label, edge := unsafe.String(&b[0], 1), unsafe.String(&b[1], 1)
	d, e := dred.New(label, []api.Edge{{From: 1, Label: edge, To: 2}})
	if e != api.OK {
		t.Fatal(e)
	}
	k := &kept{dred: d, label: "a", edges: graph("1 a 2"), applied: list("(1 2)")}
	copy(b, "bb")
	k.holds(t)
	k.refused(t, graph("1 a 2"), true, api.ErrTwice)
	k.come(t, "2 b 3", "")
	k.come(t, "2 a 3", "(1 3)(2 3)")
	copy(b, "ca")
	if _, e := d.Do([]api.Edge{{From: 3, Label: edge, To: 4}, {From: 4, Label: label, To: 5}}, true); e != api.OK {
		t.Fatal(e)
	}
	copy(b, "dd")
	k.edges = append(k.edges, graph("3 a 4")...)
	k.applied = k.holds(t)
	k.refused(t, graph("3 a 4"), true, api.ErrTwice)
	k.leave(t, "3 a 4, 1 a 2", "(1 2)(1 3)(1 4)(2 4)(3 4)")
}

// TestP14_3Alike has the same calls between others.
func TestP14_3Alike(t *testing.T) {
	var first []string
	for range 3 {
		r := rand.New(rand.NewSource(1410))
		for i := range 200 {
			nodes := 1 + r.Intn(8)
			k := made(t, drawnEdges(r, nodes, 20))
			d, e := k.dred.Do(drawnEdges(r, nodes, 2), true)
			f, g := k.dred.Do(some(r, 3, k.edges), false)
			got := fmt.Sprint(d, e, f, g, k.dred.Read(), k.dred.Over())
			if len(first) <= i {
				first = append(first, got)
			}
			if got != first[i] {
				t.Errorf("%s: %s, %s", k.told(), got, first[i])
			}
		}
	}
}
