package wait_test

import (
	"fmt"
	"math/rand"
	"slices"
	"testing"

	"rhizome/api"
	"rhizome/wait"
)

// ringsFrom are all rings that begin with a list of sessions: each session for whom the last one waits is tried behind them.
func ringsFrom(edges [][2]int, way []int) [][]int {
	var out [][]int
	if isThere(edges, way[len(way)-1], way[0]) {
		out = append(out, way)
	}
	for s := 1; s <= 16; s++ {
		if isThere(edges, way[len(way)-1], s) && !slices.Contains(way, s) {
			out = append(out, ringsFrom(edges, append(slices.Clone(way), s))...)
		}
	}
	return out
}

// tried holds Caught and Ring to all rings that there are, tried one by one.
func tried(t *testing.T, edges [][2]int) {
	t.Helper()
	var caught []int
	for s := 1; s <= 16; s++ {
		all := ringsFrom(edges, []int{s})
		if len(all) > 0 {
			caught = append(caught, s)
		}
		got, e := wait.Ring(edges, s)
		among := slices.ContainsFunc(all, func(l []int) bool { return slices.Equal(l, got) })
		if e != api.OK || len(all) > 0 && !among || len(all) == 0 && len(got) > 0 {
			t.Fatalf("Ring(%d) of %v: %v, %d, want one of %v", s, edges, got, e, all)
		}
	}
	if got, e := wait.Caught(edges); e != api.OK || !slices.Equal(got, caught) {
		t.Fatalf("Caught of %v: %v, %d, want %v", edges, got, e, caught)
	}
}

// some are those of all edges between sessions of which a number has a bit.
func some(number int, sessions ...int) [][2]int {
	var out [][2]int
	for i := range len(sessions) * len(sessions) {
		if number>>i&1 == 1 {
			out = append(out, [2]int{sessions[i/len(sessions)], sessions[i%len(sessions)]})
		}
	}
	return out
}

// TestP17_1AllOfFew has all edges between three sessions, and of four those that aren't to oneself.
func TestP17_1AllOfFew(t *testing.T) {
	r := rand.New(rand.NewSource(1703))
	for number := range 1 << 9 {
		for _, l := range [][]int{{1, 2, 3}, {16, 2, 9}} {
			edges := some(number, l...)
			tried(t, edges)
			holds(t, edges, nil)
			holds(t, edges, drawnBorn(r))
		}
	}
	for number := range 1 << 16 {
		if number&0x8421 != 0 {
			continue
		}
		edges := some(number, 15, 1, 16, 4)
		tried(t, edges)
		holds(t, mixed(r, edges), drawnBorn(r))
	}
}

// TestP17_1Tried draws edges of which all rings are tried.
func TestP17_1Tried(t *testing.T) {
	r := rand.New(rand.NewSource(1704))
	long := 0
	for range 6000 {
		edges := drawn(r)
		if len(edges) > 24 {
			continue
		}
		tried(t, edges)
		for s := 1; s <= 16; s++ {
			if l, _ := wait.Ring(edges, s); len(l) > 5 {
				long++
			}
		}
	}
	if long < 300 {
		t.Errorf("%d long rings", long)
	}
}

// TestP17_1Drawn holds all calls to the model, with edges and births that are drawn; the edges in other orders, and
// several times, answer the same.
func TestP17_1Drawn(t *testing.T) {
	r := rand.New(rand.NewSource(1705))
	none, all, several := 0, 0, 0
	for range 3000 {
		edges, born := drawn(r), drawnBorn(r)
		caught, victims := holds(t, edges, born)
		again := mixed(r, edges)
		again = append(again, again[:min(len(again), 256-len(again))]...)
		caughtAre(t, again, caught)
		victimsAre(t, again, born, victims)
		none += count(len(caught) == 0)
		all += count(len(caught) > 12)
		several += count(len(victims) > 2)
	}
	if none < 300 || all < 100 || several < 500 {
		t.Errorf("none: %d times, nearly all: %d, several victims: %d", none, all, several)
	}
}

func count(b bool) int {
	if b {
		return 1
	}
	return 0
}

// broken holds what Break tells to P17.2, victim by victim, with the other calls: each was in a ring when it was told,
// the youngest of those that were caught; behind the last one no ring is left.
func broken(t *testing.T, edges [][2]int, born []int) int {
	t.Helper()
	victims, e := wait.Break(edges, born)
	if e != api.OK {
		t.Fatalf("Break of %v: %d", edges, e)
	}
	left := edges
	for i, s := range victims {
		if slices.Contains(victims[:i], s) || !isCaught(left, s) {
			t.Fatalf("Break of %v, born %v: %v: %d is in no ring", edges, born, victims, s)
		}
		if l, e := wait.Ring(left, s); e != api.OK || !isRing(left, l, s) {
			t.Fatalf("Ring(%d) of %v: %v, %d", s, left, l, e)
		}
		if one, ok, e := wait.Victim(left, born); one != s || !ok || e != api.OK {
			t.Fatalf("Victim of %v, born %v: %d, %v, %d, want %d", left, born, one, ok, e, s)
		}
		left = without(left, s)
		if rest, e := wait.Break(left, born); e != api.OK || !slices.Equal(rest, victims[i+1:]) {
			t.Fatalf("Break of %v, born %v: %v, %d, want the rest of %v", left, born, rest, e, victims)
		}
	}
	waits := slices.DeleteFunc(slices.Clone(edges), func(e [2]int) bool { return slices.Contains(victims, e[0]) })
	for _, l := range [][][2]int{left, waits} { // it is enough that the victims wait no more
		caughtAre(t, l, nil)
		victimsAre(t, l, born, nil)
		for s := 1; s <= 16; s++ {
			if isCaught(l, s) {
				t.Fatalf("Break of %v, born %v: %v: %d is in a ring still", edges, born, victims, s)
			}
		}
	}
	return len(victims)
}

func TestP17_2NoRingIsLeft(t *testing.T) {
	r := rand.New(rand.NewSource(1706))
	var times [17]int
	for range 4000 {
		times[broken(t, drawn(r), drawnBorn(r))]++
	}
	for n := range 7 {
		if times[n] < 40 {
			t.Errorf("%d victims: %d times", n, times[n])
		}
	}
}

// TestP17_2Rows has rings of all shapes, and births in all orders.
func TestP17_2Rows(t *testing.T) {
	r := rand.New(rand.NewSource(1707))
	for _, l := range []string{
		"", "1 2", "1 1", "1 2, 2 1", "1 2, 2 1, 3 1", "1 2, 2 1, 2 3", "1 2, 2 3, 3 1, 3 4, 4 2, 4 5",
		"1 2, 2 1, 3 4, 4 3, 5 5", "1 2, 2 1, 2 3, 3 2, 3 4, 4 3, 4 5, 5 4", "1 2, 1 3, 1 4, 2 1, 3 1, 4 1, 5 1, 1 5",
	} {
		edges := edgesOf(t, l)
		for range 200 {
			broken(t, edges, r.Perm(6))
		}
	}
	for n := 1; n < 16; n += 2 {
		for range 50 {
			if broken(t, ring(n), r.Perm(17)) != 1 {
				t.Errorf("several victims of one ring")
			}
		}
	}
	for range 50 {
		if n := broken(t, whole(), r.Perm(17)); n != 16 {
			t.Errorf("%d victims of all", n)
		}
	}
}

// TestP17_1Alike has the same calls several times: each answers the same.
func TestP17_1Alike(t *testing.T) {
	r := rand.New(rand.NewSource(1708))
	var lists, births [][]int
	var all [][][2]int
	for range 300 {
		all, births = append(all, drawn(r)), append(births, drawnBorn(r))
	}
	told := func(i int) string {
		a, _ := wait.Caught(all[i])
		b, _, _ := wait.Victim(all[i], births[i])
		c, _ := wait.Break(all[i], births[i])
		lists = lists[:0]
		for s := 1; s <= 16; s++ {
			l, _ := wait.Ring(all[i], s)
			lists = append(lists, l)
		}
		return fmt.Sprint(a, b, c, lists)
	}
	var first []string
	for i := range all {
		first = append(first, told(i))
	}
	for n := range 3 * len(all) {
		i := n * 7 % len(all)
		if got := told(i); got != first[i] {
			t.Fatalf("%v, born %v: %s, was %s", all[i], births[i], got, first[i])
		}
	}
}
