package wait_test

import (
	"fmt"
	"math/rand"
	"slices"
	"strconv"
	"strings"
	"testing"

	"rhizome/api"
	"rhizome/wait"
)

// edgesOf are those that a text tells: "1 2, 2 1".
func edgesOf(t *testing.T, text string) [][2]int {
	t.Helper()
	var out [][2]int
	for _, one := range strings.Split(text, ",") {
		if l := numbers(t, one); len(l) == 2 {
			out = append(out, [2]int{l[0], l[1]})
		} else if len(l) != 0 {
			t.Fatalf("%q is no edge", one)
		}
	}
	return out
}

// numbers are those that a text tells: "1 2".
func numbers(t *testing.T, text string) []int {
	t.Helper()
	var out []int
	for _, one := range strings.Fields(text) {
		n, err := strconv.Atoi(one)
		if err != nil {
			t.Fatal(err)
		}
		out = append(out, n)
	}
	return out
}

// isThere tells whether an edge is in a list.
func isThere(edges [][2]int, from, to int) bool { return slices.Contains(edges, [2]int{from, to}) }

// isRing tells whether a list is a ring, from a session on, by the chapter's words.
func isRing(edges [][2]int, ring []int, s int) bool {
	for i, at := range ring {
		if !isThere(edges, at, ring[(i+1)%len(ring)]) || slices.Contains(ring[:i], at) {
			return false
		}
	}
	return len(ring) > 0 && ring[0] == s
}

// isCaught tells whether a session is in a ring: whether it waits for one of those that wait for it, over others or not.
// These are looked for backwards, edge by edge, till there are no more.
func isCaught(edges [][2]int, s int) bool {
	wait := []int{s}
	for n := 0; n < len(wait); n++ {
		for _, e := range edges {
			if e[1] == wait[n] && !slices.Contains(wait, e[0]) {
				wait = append(wait, e[0])
			}
		}
	}
	return slices.ContainsFunc(wait, func(o int) bool { return isThere(edges, s, o) })
}

func wantCaught(edges [][2]int) []int {
	var out []int
	for s := 1; s <= 16; s++ {
		if isCaught(edges, s) {
			out = append(out, s)
		}
	}
	return out
}

// bornAt is when a session's transaction began.
func bornAt(born []int, s int) int {
	for at, n := range born {
		if at == s {
			return n
		}
	}
	return 0
}

// wantVictim is the caught session than which no other one is younger; 0, if there is none.
func wantVictim(edges [][2]int, born []int) int {
	all := wantCaught(edges)
	for _, s := range all {
		if !slices.ContainsFunc(all, func(o int) bool {
			return bornAt(born, o) > bornAt(born, s) || bornAt(born, o) == bornAt(born, s) && o > s
		}) {
			return s
		}
	}
	return 0
}

// without are the edges that have none of the sessions at an end.
func without(edges [][2]int, sessions ...int) [][2]int {
	return slices.DeleteFunc(slices.Clone(edges), func(e [2]int) bool {
		return slices.Contains(sessions, e[0]) || slices.Contains(sessions, e[1])
	})
}

func wantBreak(edges [][2]int, born []int) []int {
	var out []int
	for {
		s := wantVictim(without(edges, out...), born)
		if s == 0 {
			return out
		}
		out = append(out, s)
	}
}

// caughtAre holds Caught, and Ring of each session, to these being caught.
func caughtAre(t *testing.T, edges [][2]int, want []int) {
	t.Helper()
	if got, e := wait.Caught(edges); e != api.OK || !slices.Equal(got, want) {
		t.Fatalf("Caught of %v: %v, %d, want %v", edges, got, e, want)
	}
	for s := 1; s <= 16; s++ {
		got, e := wait.Ring(edges, s)
		switch {
		case e != api.OK:
			t.Fatalf("Ring(%d) of %v: %d", s, edges, e)
		case slices.Contains(want, s) && !isRing(edges, got, s):
			t.Fatalf("Ring(%d) of %v: %v: no ring of its", s, edges, got)
		case !slices.Contains(want, s) && len(got) != 0:
			t.Fatalf("Ring(%d) of %v: %v, want none", s, edges, got)
		}
	}
}

// victimsAre holds Victim to the first of these (0, false, if there is none), and Break to all.
func victimsAre(t *testing.T, edges [][2]int, born, want []int) {
	t.Helper()
	first := append(slices.Clone(want), 0)[0]
	if got, ok, e := wait.Victim(edges, born); got != first || ok != (first != 0) || e != api.OK {
		t.Fatalf("Victim of %v, born %v: %d, %v, %d, want %d", edges, born, got, ok, e, first)
	}
	if got, e := wait.Break(edges, born); e != api.OK || !slices.Equal(got, want) {
		t.Fatalf("Break of %v, born %v: %v, %d, want %v", edges, born, got, e, want)
	}
}

// holds holds all four calls to the model, which it answers: who is caught, and the victims.
func holds(t *testing.T, edges [][2]int, born []int) (caught, victims []int) {
	t.Helper()
	caught, victims = wantCaught(edges), wantBreak(edges, born)
	caughtAre(t, edges, caught)
	victimsAre(t, edges, born, victims)
	return caught, victims
}

// refused holds all four calls to ErrRange, with nothing beside it; with sessions alone just Ring, of these sessions.
func refused(t *testing.T, edges [][2]int, born []int, sessions ...int) {
	t.Helper()
	told := brief(edges)
	for _, s := range sessions {
		if got, e := wait.Ring(edges, s); e != api.ErrRange || got != nil {
			t.Errorf("Ring(%d) of %s: %v, %d, want ErrRange", s, told, got, e)
		}
	}
	if len(sessions) > 0 {
		return
	}
	for s := 1; s <= 16; s++ {
		refused(t, edges, born, s)
	}
	if got, e := wait.Caught(edges); e != api.ErrRange || got != nil {
		t.Errorf("Caught of %s: %v, %d, want ErrRange", told, got, e)
	}
	if got, ok, e := wait.Victim(edges, born); e != api.ErrRange || got != 0 || ok {
		t.Errorf("Victim of %s: %d, %v, %d, want ErrRange", told, got, ok, e)
	}
	if got, e := wait.Break(edges, born); e != api.ErrRange || got != nil {
		t.Errorf("Break of %s: %v, %d, want ErrRange", told, got, e)
	}
}

// brief tells edges, but not all of many.
func brief(edges [][2]int) string {
	if len(edges) > 300 {
		return fmt.Sprintf("%d edges", len(edges))
	}
	return fmt.Sprint(edges)
}

// mixed are the edges in another order.
func mixed(r *rand.Rand, edges [][2]int) [][2]int {
	out := slices.Clone(edges)
	r.Shuffle(len(out), func(i, j int) { out[i], out[j] = out[j], out[i] })
	return out
}

// drawn are edges between some of the sessions: few or many, and some of them several times.
func drawn(r *rand.Rand) [][2]int {
	some := r.Perm(16)[:1+r.Intn(16)]
	most := 3 * len(some)
	if r.Intn(10) == 0 {
		most = 256
	}
	var out [][2]int
	for range r.Intn(most + 1) {
		e := [2]int{1 + some[r.Intn(len(some))], 1 + some[r.Intn(len(some))]}
		if e[0] != e[1] || r.Intn(8) == 0 {
			out = append(out, e)
		}
	}
	return out
}

// drawnBorn is a list that is empty, or short, or long; of few numbers, so that some are equal, or of many.
func drawnBorn(r *rand.Rand) []int {
	var out []int
	few := 1 + r.Intn(20)
	for range r.Intn(20) {
		out = append(out, r.Intn(few)-r.Intn(few))
	}
	return out
}
