package wait_test

import (
	"fmt"
	"math/rand"
	"slices"
	"testing"

	"rhizome/api"
	"rhizome/wait"
)

// spoil changes all that a list has, spare room too.
func spoil[T any](l []T, with T) {
	l = l[:cap(l)]
	for i := range l {
		l[i] = with
	}
}

// roomy is a list with spare room, which is filled.
func roomy[T any](l []T, with T) []T {
	out := make([]T, len(l), len(l)+40)
	copy(out, l)
	spoil(out[len(l):], with)
	return out
}

// answers are those of all calls.
func answers(edges [][2]int, born []int) [][]int {
	a, _ := wait.Caught(edges)
	b, _ := wait.Break(edges, born)
	out := [][]int{a, b}
	for s := 1; s <= 16; s++ {
		l, _ := wait.Ring(edges, s)
		out = append(out, l)
	}
	return out
}

// all is a list with its spare room.
func all[T any](l []T) []T { return l[:cap(l)] }

// TestP17_3WhatIsHandedInStays has the lists, spare room too, be as they were behind each call, also one that is refused.
func TestP17_3WhatIsHandedInStays(t *testing.T) {
	r := rand.New(rand.NewSource(1709))
	for i := range 1000 {
		edges, born := roomy(drawn(r), [2]int{3, 3}), roomy(drawnBorn(r), 77)
		if i%4 == 0 && len(edges) > 0 {
			edges[r.Intn(len(edges))][r.Intn(2)] = 17
		}
		was, wasBorn := slices.Clone(all(edges)), slices.Clone(all(born))
		for n, call := range []func(){
			func() { wait.Caught(edges) },
			func() { wait.Ring(edges, r.Intn(18)) },
			func() { wait.Victim(edges, born) },
			func() { wait.Break(edges, born) },
		} {
			call()
			if !slices.Equal(all(edges), was) || !slices.Equal(all(born), wasBorn) {
				t.Fatalf("%v and %v, %v and %v behind call %d", was, wasBorn, all(edges), all(born), n)
			}
		}
	}
}

// TestP17_3SpareRoomTellsNothing has the same lists with spare room and without.
func TestP17_3SpareRoomTellsNothing(t *testing.T) {
	r := rand.New(rand.NewSource(1710))
	for range 500 {
		edges, born := drawn(r), drawnBorn(r)
		want := fmt.Sprint(answers(slices.Clip(edges), slices.Clip(born)))
		if got := fmt.Sprint(answers(roomy(edges, [2]int{3, 3}), roomy(born, 77))); got != want {
			t.Fatalf("%v, born %v: %s, want %s", edges, born, got, want)
		}
	}
}

// TestP17_3AnswersAreNewMemory spoils what was handed in, and what was answered, list by list: no other answer is changed
// by it, and later ones aren't.
func TestP17_3AnswersAreNewMemory(t *testing.T) {
	r := rand.New(rand.NewSource(1711))
	for range 500 {
		edges, born := drawn(r), drawnBorn(r)
		gave, gaveBorn := slices.Clone(edges), slices.Clone(born)
		first, second := answers(gave, gaveBorn), answers(gave, gaveBorn)
		want := fmt.Sprint(second)
		spoil(gave, [2]int{5, 5})
		spoil(gaveBorn, 99)
		if got := fmt.Sprint(first, second); got != want+" "+want {
			t.Fatalf("%v, born %v: %s, want twice %s", edges, born, got, want)
		}
		for i := range first {
			spoil(first[i], 16)
			if got := fmt.Sprint(first[i+1:], second); got != fmt.Sprint(second[i+1:], second) || fmt.Sprint(second) != want {
				t.Fatalf("%v, born %v: %s behind list %d", edges, born, got, i)
			}
		}
		if got := fmt.Sprint(answers(edges, born)); got != want {
			t.Fatalf("%v, born %v: %s, was %s", edges, born, got, want)
		}
	}
}

// TestP17_3RowsMayBeChanged does so with answers that are told.
func TestP17_3RowsMayBeChanged(t *testing.T) {
	edges, born := edgesOf(t, "1 2, 2 1, 3 4, 4 3, 5 5"), []int{0, 1, 2, 3, 4, 5}
	for range 3 {
		caught, e := wait.Caught(edges)
		if e != api.OK || fmt.Sprint(caught) != "[1 2 3 4 5]" {
			t.Fatalf("Caught: %v, %d", caught, e)
		}
		victims, e := wait.Break(edges, born)
		if e != api.OK || fmt.Sprint(victims) != "[5 4 2]" {
			t.Fatalf("Break: %v, %d", victims, e)
		}
		l, e := wait.Ring(edges, 4)
		if e != api.OK || fmt.Sprint(l) != "[4 3]" {
			t.Fatalf("Ring: %v, %d", l, e)
		}
		spoil(caught, 9)
		spoil(l, 9)
		spoil(victims, 9)
	}
}
