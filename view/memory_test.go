package view_test

import (
	"fmt"
	"math/rand"
	"slices"
	"testing"
	"unsafe"

	"rhizome/api"
	"rhizome/tuple"
	"rhizome/view"
)

// roomy is a list like l, with spare room in which something stands.
func roomy[T any](l []T, spare T) []T {
	return append(append(make([]T, 0, len(l)+2), l...), spare, spare)[:len(l)]
}

// whole is all that a list has, spare room too.
func whole[T any](l []T) string { return fmt.Sprint(len(l), l[:cap(l)]) }

// spoil changes all that a list has, spare room too.
func spoil[T any](l []T, with T) {
	l = l[:cap(l)]
	for i := range l {
		l[i] = with
	}
}

func roomyEdges(l []api.Edge) []api.Edge { return roomy(l, api.Edge{From: 2, Label: "a", To: 2}) }

func spoilEdges(l []api.Edge) { spoil(l, api.Edge{From: 2, Label: "a", To: 1}) }

func spoilTuples(l []api.Tuple) {
	for _, u := range l {
		spoil(u, 99)
	}
	spoil(l, api.Tuple{98})
}

func spoilDelta(d api.Delta) {
	spoilTuples(d.Add)
	spoilTuples(d.Del)
}

func roomyView(v api.View) api.View {
	v.Out, v.Atoms = roomy(v.Out, "spare"), roomy(v.Atoms, api.Atom{From: "spare", Label: "a", To: "room"})
	return v
}

func spoilView(v api.View) {
	spoil(v.Out, "q")
	spoil(v.Atoms, api.Atom{From: "q", Label: "b", To: "q"})
}

func wholeView(v api.View) string {
	return fmt.Sprint(v.Name, v.Kind, v.Label, whole(v.Out), whole(v.Atoms))
}

func TestP18_3WhatIsHandedInToNewAndContentStays(t *testing.T) {
	for _, v := range append(bad(), kinds()...) {
		for _, edges := range [][]api.Edge{nil, graph("1 a 2, 2 b 3, 1 a 1, 1 a 2, 9 c 9"), apart("a", 4001, 1)} {
			v, edges := roomyView(v), roomyEdges(edges)
			was, in := wholeView(v), whole(edges)
			view.New(v, edges)
			view.Content(v, edges)
			if wholeView(v) != was || whole(edges) != in {
				t.Fatalf("%s, %s, were %s, %s", wholeView(v), whole(edges), was, in)
			}
		}
	}
}

func TestP18_3WhatIsHandedInToDoStays(t *testing.T) {
	lists := [][]api.Edge{nil, apart("a", 4001, 101)}
	for _, s := range []string{"1 a 2", "2 b 3", "2 a 3, 1 a 2, 2 b 3", "5 a 6, 1 c 1", "5 a 6, 5 a 6", "1 a 2, 1 a 2", "9 a 9, 1 a 2"} {
		lists = append(lists, graph(s))
	}
	for _, v := range kinds() {
		k := made(t, v, graph("1 a 2, 2 a 3, 2 b 3"))
		for _, l := range lists {
			for _, m := range lists {
				gone, come := roomyEdges(l), roomyEdges(m)
				was, in := whole(gone), whole(come)
				k.standing.Do(gone, come)
				if whole(gone) != was || whole(come) != in {
					t.Fatalf("Do: %s, %s, were %s, %s", whole(gone), whole(come), was, in)
				}
			}
		}
	}
}

// TestP18_3WhatWasHandedInMayBeChanged spoils all that was handed in, behind each call.
func TestP18_3WhatWasHandedInMayBeChanged(t *testing.T) {
	r := rand.New(rand.NewSource(1807))
	for range 500 {
		nodes := 1 + r.Intn(6)
		v, edges := drawnView(r, 3), drawnEdges(r, nodes, 14)
		k := made(t, v, edges)
		handedView, handed := roomyView(v), roomyEdges(edges)
		k.standing, _ = view.New(handedView, handed)
		spoilView(handedView)
		spoilEdges(handed)
		k.holds(t)
		for range 12 {
			gone, come := k.drawnLists(r, nodes)
			want := k.toldError(gone, come)
			handedGone, handedCome := roomyEdges(gone), roomyEdges(come)
			d, e := k.standing.Do(handedGone, handedCome)
			spoilEdges(handedGone)
			spoilEdges(handedCome)
			k.answered(t, gone, come, d, e, want)
		}
	}
}

// TestP18_3NoTextIsKept has texts whose bytes are changed behind a call.
func TestP18_3NoTextIsKept(t *testing.T) {
	for _, kind := range []int{api.KPattern, api.KReach} {
		b := []byte("axcyf")
		text := func(i int) string { return unsafe.String(&b[i], 1) }
		v, as := api.View{Name: text(4), Kind: kind, Label: text(0)}, of("= reach a")
		if kind == api.KPattern {
			v, as = api.View{Name: text(4), Kind: kind, Out: []string{text(1), text(3)}, Atoms: []api.Atom{{From: text(1), Label: text(0), To: text(3)}}}, of("(x, y) = a(x, y)")
		}
		s, e := view.New(v, []api.Edge{{From: 1, Label: text(0), To: 2}, {From: 1, Label: text(2), To: 2}})
		if e != api.OK {
			t.Fatal(e)
		}
		k := &kept{standing: s, view: as, edges: graph("1 a 2, 1 c 2")}
		copy(b, "bzdwg")
		k.applied = k.holds(t)
		k.refused(t, nil, graph("1 a 2"), api.ErrTwice)
		k.refused(t, nil, graph("1 c 2"), api.ErrTwice)
		k.refused(t, graph("1 b 2"), nil, api.ErrNone)
		k.done(t, "", "3 b 4", "", "")
		copy(b, "axcyf")
		if _, e := s.Do(nil, []api.Edge{{From: 5, Label: text(0), To: 6}, {From: 5, Label: text(2), To: 6}}); e != api.OK {
			t.Fatal(e)
		}
		copy(b, "bzdwg")
		k.edges = append(k.edges, graph("5 a 6, 5 c 6")...)
		k.applied = k.holds(t)
		k.refused(t, nil, graph("5 c 6"), api.ErrTwice)
		k.done(t, "1 c 2, 5 c 6, 5 a 6, 1 a 2", "7 a 8", "(7 8)", "(1 2)(5 6)")
		copy(b, "axcyf")
		one := []api.Edge{{From: 7, Label: text(0), To: 8}}
		if _, e := s.Do(one, one); e != api.OK { // it goes, and comes with the text that is handed in
			t.Fatal(e)
		}
		copy(b, "bzdwg")
		k.holds(t)
		k.refused(t, nil, graph("7 a 8"), api.ErrTwice)
		k.done(t, "7 a 8", "1 a 2", "(1 2)", "(7 8)")
	}
}

// TestP18_3AnswersMayBeChanged spoils each answer: neither later ones nor what was handed in has changed.
func TestP18_3AnswersMayBeChanged(t *testing.T) {
	r := rand.New(rand.NewSource(1808))
	for range 500 {
		nodes := 1 + r.Intn(6)
		k := made(t, drawnView(r, 3), drawnEdges(r, nodes, 14))
		for range 12 {
			gone, come := k.drawnLists(r, nodes)
			want := k.toldError(gone, come)
			handedGone, handedCome := roomyEdges(gone), roomyEdges(come)
			was, in := whole(handedGone), whole(handedCome)
			d, e := k.standing.Do(handedGone, handedCome)
			spoilDelta(d)
			spoilTuples(k.standing.Read())
			spoilView(k.standing.View())
			if e != want {
				t.Fatalf("Do of %s, %v, %v: %d, want %d", k.told(), gone, come, e, want)
			}
			if whole(handedGone) != was || whole(handedCome) != in {
				t.Fatalf("the answers share with what was handed in: %s, %s, were %s, %s", whole(handedGone), whole(handedCome), was, in)
			}
			if e == api.OK {
				k.edges = k.behind(gone, come)
			}
			k.applied = k.holds(t)
			content, _ := view.Content(k.view, k.edges)
			spoilTuples(content)
			contentIs(t, k.view, k.edges, k.applied)
		}
	}
}

// apartFromOthers changes one tuple of the lists after the other, and then one list after the other, spare room too, and holds all
// others to be as they were.
func apartFromOthers(t *testing.T, lists ...[]api.Tuple) {
	t.Helper()
	var all, were []api.Tuple
	for _, l := range lists {
		for _, u := range l {
			all, were = append(all, u), append(were, slices.Clone(u))
		}
	}
	for i, u := range all {
		spoil(u, 99)
		copy(u, were[i])
		if !equal(all, were) {
			t.Fatalf("%v, were %v", all, were)
		}
	}
	for i, l := range lists {
		spoil(l, api.Tuple{98})
		if behind := slices.Concat(lists[i+1:]...); !equal(behind, were[len(were)-len(behind):]) {
			t.Fatalf("%v, were %v", behind, were[len(were)-len(behind):])
		}
	}
}

func TestP18_3NoTwoListsOfAnAnswerShare(t *testing.T) {
	edges, to := graph("1 a 2, 2 a 3, 3 a 2, 4 a 1"), graph("6 a 5, 4 a 5, 1 a 1")
	for _, s := range []string{"= reach a", "(x, y) = a(x, y)", "(z, x, y) = a(x, y), a(z, y)", "(y) = a(x, y)", "(y, x, w) = a(x, y), a(v, w)"} {
		k := made(t, of(s), edges)
		apartFromOthers(t, k.standing.Read(), k.standing.Read())
		first, _ := view.Content(k.view, edges)
		second, _ := view.Content(k.view, edges)
		apartFromOthers(t, first, second, k.standing.Read())
		there, _ := k.standing.Do(edges, to)
		back, e := k.standing.Do(to, edges)
		if e != api.OK || len(there.Add) == 0 || len(there.Del) == 0 || !equalDeltas(tuple.Back(there), back) {
			t.Fatalf("%s: %s, %s, %d", s, told(there), told(back), e)
		}
		apartFromOthers(t, there.Add, there.Del, back.Del, back.Add, k.standing.Read())
		k.holds(t)
	}
}

// TestP18_3NoTwoViewsShare changes one view that is answered, and holds another one to be as it was.
func TestP18_3NoTwoViewsShare(t *testing.T) {
	for _, v := range kinds() {
		k := made(t, v, nil)
		first, second := k.standing.View(), k.standing.View()
		spoilView(first)
		if !equalViews(second, v) || !equalViews(k.standing.View(), v) {
			t.Errorf("%v, %v, were %v", second, k.standing.View(), v)
		}
	}
}

// TestP18_3AnEarlierAnswerStays has answers that later calls leave as they are.
func TestP18_3AnEarlierAnswerStays(t *testing.T) {
	for s, want := range map[string]struct {
		read, behind string
		delta        api.Delta
	}{
		"= reach a":        {"(1 2)(1 3)(2 3)", "(1 2)(2 1)(1 1)(2 2)", api.Delta{Add: list("(1 1)(2 1)(2 2)"), Del: list("(1 3)(2 3)")}},
		"(x, y) = a(x, y)": {"(1 2)(2 3)", "(1 2)(2 1)", api.Delta{Add: list("(2 1)"), Del: list("(2 3)")}},
	} {
		k := made(t, of(s), graph("1 a 2, 2 a 3"))
		read := k.standing.Read()
		d, _ := k.standing.Do(graph("2 a 3"), graph("2 a 1"))
		behind, v := k.standing.Read(), k.standing.View()
		k.standing.Do(graph("1 a 2"), graph("2 a 3, 7 a 7"))
		k.standing.Do(nil, apart("a", 4001, 101))
		k.standing.Do(graph("7 a 7, 2 a 1, 2 a 3"), graph("9 b 9"))
		if !equal(read, list(want.read)) || !equalDeltas(d, want.delta) || !equal(behind, tuple.Set(list(want.behind))) || !equalViews(v, of(s)) {
			t.Errorf("%v, %v, %v, %v", read, d, behind, v)
		}
	}
}
