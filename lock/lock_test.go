package lock_test

import (
	"fmt"
	"math"
	"strings"
	"testing"

	"rhizome/api"
	"rhizome/lock"
)

// each does lists of calls, each with a new table; of each it is told who holds item 5 then, who waits for it, and the
// edges.
func each(t *testing.T, cases [][4]string) {
	t.Helper()
	for _, c := range cases {
		k := made()
		k.script(t, c[0])
		k.has(t, 5, c[1], c[2])
		k.edges(t, c[3])
	}
}

// TestP16_1Example is the chapter's, call for call.
func TestP16_1Example(t *testing.T) {
	table := lock.New()
	for i, c := range []struct {
		s, item int
		alone   bool
		want    api.Errno
	}{
		{1, 5, false, api.OK}, {2, 5, false, api.OK}, {3, 5, true, api.ErrWait}, {4, 5, false, api.ErrWait}, {1, 5, true, api.ErrWait},
	} {
		if e := table.Ask(c.s, c.item, c.alone); e != c.want {
			t.Errorf("%d: %d, want %d", i, e, c.want)
		}
	}
	if l, e := table.Release(2); e != api.OK || len(l) != 1 || l[0] != 1 {
		t.Errorf("Release: %v, %d", l, e)
	}
	k := made()
	k.script(t, "1s5 2s5 3a5:wait")
	k.edges(t, "3 1 2")
	k.script(t, "4s5:wait 1a5:wait")
	k.has(t, 5, "1 2", "1A 3A 4")
	k.edges(t, "1 2,3 1 2,4 1 3")
	k.script(t, "2-:1")
	k.has(t, 5, "1A", "3A 4")
	k.edges(t, "3 1,4 1 3")
	k.script(t, "1-:3 3-:4 4-:")
	k.has(t, 5, "", "")
	k.edges(t, "")
}

func TestP16_1NewIsEmpty(t *testing.T) {
	k := made()
	k.holds(t)
	for _, s := range sessions() {
		for _, item := range []int{math.MinInt, -5, 0, 5, math.MaxInt} {
			if a, b := k.table.Holds(s, item); a || b {
				t.Errorf("Holds(%d, %d): %v, %v", s, item, a, b)
			}
		}
		if item, alone, ok := k.table.Waits(s); item != 0 || alone || ok {
			t.Errorf("Waits(%d): %d, %v, %v", s, item, alone, ok)
		}
		if l := k.table.Blockers(s); len(l) != 0 {
			t.Errorf("Blockers(%d): %v", s, l)
		}
		k.release(t, s)
		k.holds(t)
	}
	if l := k.table.Edges(); len(l) != 0 {
		t.Errorf("Edges: %v", l)
	}
}

// TestP16_1SharedAndAlone has sessions that ask for an item that they don't hold.
func TestP16_1SharedAndAlone(t *testing.T) {
	each(t, [][4]string{
		{"1s5", "1", "", ""},
		{"1a5", "1A", "", ""},
		{"1s5 2s5", "1 2", "", ""},
		{"2s5 1s5", "1 2", "", ""},
		{"1s5 2a5:wait", "1", "2A", "2 1"},
		{"1a5 2s5:wait", "1A", "2", "2 1"},
		{"1a5 2a5:wait", "1A", "2A", "2 1"},
		{"1s5 2s5 3s5 16s5", "1 2 3 16", "", ""},
		{"3s5 1s5 2s5 4a5:wait", "1 2 3", "4A", "4 1 2 3"},
		{"1s5 2a5:wait 3s5:wait", "1", "2A 3", "2 1,3 2"},
		{"1s5 3a5:wait 2s5:wait 4a5:wait", "1", "2 3A 4A", "2 3,3 1,4 1 2 3"},
		{"2a5 1s5:wait 3s5:wait", "2A", "1 3", "1 2,3 1 2"},
		{"2a5 3s5:wait 1s5:wait", "2A", "1 3", "1 2 3,3 2"},
		{"2a5 3a5:wait 1a5:wait", "2A", "1A 3A", "1 2 3,3 2"},
	})
}

// TestP16_1HeldAlready has one that asks for what it holds.
func TestP16_1HeldAlready(t *testing.T) {
	each(t, [][4]string{
		{"1s5 1s5", "1", "", ""},
		{"1s5 1a5", "1A", "", ""},
		{"1a5 1s5", "1A", "", ""},
		{"1a5 1a5", "1A", "", ""},
		{"1s5 1a5 1s5 1a5", "1A", "", ""},
		{"1s5 1a5 2s5:wait", "1A", "2", "2 1"},
		{"1a5 1s5 2s5:wait", "1A", "2", "2 1"},
		{"1s5 2s5 1s5", "1 2", "", ""},
		{"1s5 2s5 1a5:wait", "1 2", "1A", "1 2"},
		{"1s5 2s5 2a5:wait", "1 2", "2A", "2 1"},
		{"1s5 2s5 3s5 2a5:wait", "1 2 3", "2A", "2 1 3"},
		{"1s5 2s5 3s5 2a5:wait 1s5 3s5", "1 2 3", "2A", "2 1 3"},
		{"1s5 2s5 1a5:wait 2s5 2-:1", "1A", "", ""},
		{"1s5 2s5 1a5:wait 1-: 1s5 1a5:wait", "1 2", "1A", "1 2"},
	})
}

// TestP16_1HeldAlreadyWhileOthersWait has one that goes ahead of those that wait, if it is fit.
func TestP16_1HeldAlreadyWhileOthersWait(t *testing.T) {
	each(t, [][4]string{
		{"1s5 2a5:wait 1s5", "1", "2A", "2 1"},
		{"1s5 2a5:wait 1a5", "1A", "2A", "2 1"},
		{"1s5 2a5:wait 3s5:wait 1a5", "1A", "2A 3", "2 1,3 1 2"},
		{"1a5 2s5:wait 1s5", "1A", "2", "2 1"},
		{"1a5 2s5:wait 1a5", "1A", "2", "2 1"},
		{"1a5 2a5:wait 1s5 1a5", "1A", "2A", "2 1"},
		{"1s5 3s5 2a5:wait 1s5 3s5", "1 3", "2A", "2 1 3"},
		{"1s5 3s5 2a5:wait 3-: 1a5", "1A", "2A", "2 1"},
		{"1s5 3s5 2a5:wait 3-: 3s5:wait", "1", "2A 3", "2 1,3 2"}, // what it held it holds no more
		{"1s5 2a5:wait 3s6 3s5:wait", "1", "2A 3", "2 1,3 2"},     // nor does it by holding another item
	})
}

// TestP16_1PlacesInTheQueue has who holds the item already stand ahead of all that don't, behind those that do.
func TestP16_1PlacesInTheQueue(t *testing.T) {
	each(t, [][4]string{
		{"1s5 2s5 3a5:wait 1a5:wait", "1 2", "1A 3A", "1 2,3 1 2"},
		{"1s5 2s5 3a5:wait 4s5:wait 5a5:wait 2a5:wait", "1 2", "2A 3A 4 5A", "2 1,3 1 2,4 2 3,5 1 2 3 4"},
		{"1s5 2s5 1a5:wait 3a5:wait", "1 2", "1A 3A", "1 2,3 1 2"},
		{"1s5 2s5 1a5:wait 3s5:wait", "1 2", "1A 3", "1 2,3 1"},
		{"1s5 2s5 1a5:wait 2a5:wait", "1 2", "1A 2A", "1 2,2 1"},
		{"1s5 2s5 4s5 3a5:wait 4a5:wait 1a5:wait 2-:", "1 4", "1A 3A 4A", "1 4,3 1 4,4 1"},
		{"1s5 2s5 4s5 3a5:wait 4a5:wait 1a5:wait 2-: 1-:4", "4A", "3A", "3 4"},
		{"1s5 2s5 4s5 3a5:wait 4a5:wait 1a5:wait 2-: 4-:1", "1A", "3A", "3 1"},
		{"1s5 2s5 9s6 3s6 4s6 3a6:wait 7a5:wait 4a6:wait 8s5:wait 1a5:wait", "1 2", "1A 7A 8", "1 2,3 4 9,4 3 9,7 1 2,8 1 7"},
		{"1s5 2s5 3s6 7a5:wait 3a5:wait 8s5:wait 1a5:wait", "1 2", "1A 3A 7A 8", "1 2,3 1 2 7,7 1 2,8 1 3 7"},
	})
	each(t, [][4]string{ // the queue of another item means nothing to it
		{"1s5 2s5 3s5 8s6 9s6 1a5:wait 8a6:wait 2a5:wait 9a6:wait", "1 2 3", "1A 2A", "1 2 3,2 1 3,8 9,9 8"},
		{"1s5 2s5 3s5 8s6 9s6 1a5:wait 8a6:wait 2a5:wait 9a6:wait 3-: 2-:1", "1A", "", "8 9,9 8"},
		{"1s5 2s5 3s5 8s6 9s6 1a5:wait 8a6:wait 2a5:wait 9a6:wait 3-: 4a5:wait 9-:8", "1 2", "1A 2A 4A", "1 2,2 1,4 1 2"},
	})
	k := made() // three that hold it ask for it alone: one goes on, when all others gave it up
	k.script(t, "1s5 2s5 3s5 4s5 5s5 9a5:wait 8s5:wait 3a5:wait 1a5:wait 2a5:wait 7a5:wait")
	k.has(t, 5, "1 2 3 4 5", "1A 2A 3A 7A 8 9A")
	k.edges(t, "1 2 3 4 5,2 1 3 4 5,3 1 2 4 5,7 1 2 3 4 5 8 9,8 1 2 3 9,9 1 2 3 4 5")
	k.script(t, "4-: 5-: 2-: 1-:3 3-:9 9-:8 8-:7 7-:")
	k.has(t, 5, "", "")
}

// TestP16_1ReleaseOfHolders has one that holds give up, with others that hold the item too, or none.
func TestP16_1ReleaseOfHolders(t *testing.T) {
	each(t, [][4]string{
		{"1s5 1-:", "", "", ""},
		{"1a5 1-:", "", "", ""},
		{"1a5 1-: 2a5", "2A", "", ""},
		{"1s5 2s5 1-:", "2", "", ""},
		{"1s5 2s5 1-: 2a5", "2A", "", ""},
		{"1s5 2a5:wait 1-:2", "2A", "", ""},
		{"1a5 2s5:wait 1-:2", "2", "", ""},
		{"1s5 2s5 3a5:wait 1-:", "2", "3A", "3 2"},
		{"1s5 2s5 3a5:wait 2-:", "1", "3A", "3 1"},
		{"1s5 2s5 3a5:wait 2-: 1-:3", "3A", "", ""},
		{"1s5 2s5 1a5:wait 2-:1", "1A", "", ""},
		{"1s5 2s5 1a5:wait 3s5:wait 2-:1", "1A", "3", "3 1"},
		{"1s5 2s5 3s5 1a5:wait 2-:", "1 3", "1A", "1 3"},
		{"1s5 1a5 2s5:wait 1-:2", "2", "", ""},
		{"1s5 1s6 1s7 2a5:wait 1-:2 1a6", "2A", "", ""},
	})
}

// TestP16_1SeveralGrants has several that go on at one Release: shared ones in a row, or one that is alone.
func TestP16_1SeveralGrants(t *testing.T) {
	each(t, [][4]string{
		{"1a5 2s5:wait 3s5:wait 4s5:wait 1-:2,3,4", "2 3 4", "", ""},
		{"1a5 4s5:wait 2s5:wait 3s5:wait 1-:4,2,3", "2 3 4", "", ""},
		{"1a5 2s5:wait 3s5:wait 4a5:wait 5s5:wait 1-:2,3", "2 3", "4A 5", "4 2 3,5 4"},
		{"1a5 2a5:wait 3s5:wait 4s5:wait 1-:2", "2A", "3 4", "3 2,4 2 3"},
		{"1a5 2a5:wait 3s5:wait 4s5:wait 1-:2 2-:3,4", "3 4", "", ""},
		{"1a5 2a5:wait 3a5:wait 1-:2", "2A", "3A", "3 2"},
		{"1a5 2s5:wait 3a5:wait 4s5:wait 1-:2 2-:3 3-:4", "4", "", ""},
		{"1a5 9s5:wait 8s5:wait 7a5:wait 6s5:wait 1-:9,8 8-: 9-:7 7-:6", "6", "", ""},
		{"1s5 2s5 2a5:wait 3s5:wait 4s5:wait 2-:3,4", "1 3 4", "", ""},
		{"1s5 2s5 2a5:wait 3s5:wait 4s5:wait 1-:2 2-:3,4", "3 4", "", ""},
	})
}

// TestP16_1ReleaseOfWaiters has one that stands in a queue, ahead of others or behind them, leave it.
func TestP16_1ReleaseOfWaiters(t *testing.T) {
	each(t, [][4]string{
		{"1s5 2a5:wait 2-:", "1", "", ""},
		{"1s5 2a5:wait 3s5:wait 2-:3", "1 3", "", ""},
		{"1s5 2a5:wait 3s5:wait 4s5:wait 2-:3,4", "1 3 4", "", ""},
		{"1s5 2a5:wait 3s5:wait 4a5:wait 5s5:wait 2-:3", "1 3", "4A 5", "4 1 3,5 4"},
		{"1s5 2a5:wait 3s5:wait 4s5:wait 3-:", "1", "2A 4", "2 1,4 2"},
		{"1s5 2a5:wait 3a5:wait 4s5:wait 2-:", "1", "3A 4", "3 1,4 3"},
		{"1s5 2a5:wait 3s5:wait 3-: 1-:2", "2A", "", ""},
		{"1a5 2a5:wait 3s5:wait 2-: 1-:3", "3", "", ""},
		{"1s5 2a5:wait 2-: 2s5", "1 2", "", ""},
		{"1s5 2a5:wait 3s5:wait 2-:3 2a5:wait", "1 3", "2A", "2 1 3"},
	})
}

// TestP16_1ReleaseOfThoseThatDoBoth has ones that hold, the item that they wait for or others, and wait.
func TestP16_1ReleaseOfThoseThatDoBoth(t *testing.T) {
	each(t, [][4]string{
		{"1s5 2s5 2a5:wait 2-:", "1", "", ""},
		{"1s5 2s5 2a5:wait 1a5:wait 2-:1", "1A", "", ""},
		{"1s5 2s5 2a5:wait 1a5:wait 1-:2", "2A", "", ""},
		{"1s5 2s5 2a5:wait 3s5:wait 2-:3", "1 3", "", ""},
		{"1a5 2a6 3s6:wait 2a5:wait 4s5:wait 2-:3", "1A", "4", "4 1"},
		{"1s5 2a6 3s6:wait 2a5:wait 4s5:wait 2-:4,3", "1 4", "", ""},
		{"1a5 2a4 3s4:wait 2a5:wait 2-:3 1-:", "", "", ""},
		{"1s5 2a4 3s4:wait 2a5:wait 4s5:wait 2-:3,4", "1 4", "", ""},
	})
}

// TestP16_1ReleaseOfThoseThatDoNeither has ones that never asked, and ones that gave up all.
func TestP16_1ReleaseOfThoseThatDoNeither(t *testing.T) {
	each(t, [][4]string{
		{"1-:", "", "", ""},
		{"1s5 2-:", "1", "", ""},
		{"1s5 2a5:wait 3-: 16-:", "1", "2A", "2 1"},
		{"1s5 1-: 1-:", "", "", ""},
		{"1s5 2a5:wait 2-: 2-:", "1", "", ""},
		{"1s5 2a5:wait 1-:2 1-: 2-: 2-:", "", "", ""},
	})
}

// TestP16_1SeveralItems has locks on one item mean nothing to another one.
func TestP16_1SeveralItems(t *testing.T) {
	k := made()
	k.script(t, "1a5 2a6 3s7 4s7 1s7 2s7")
	for item, hold := range map[int]string{4: "", 5: "1A", 6: "2A", 7: "1 2 3 4", 8: ""} {
		k.has(t, item, hold, "")
	}
	k.script(t, "5s5:wait 6a6:wait 7a7:wait 8s8 8s5:wait 9a8:wait")
	k.has(t, 5, "1A", "5 8")
	k.has(t, 6, "2A", "6A")
	k.has(t, 7, "1 2 3 4", "7A")
	k.has(t, 8, "8", "9A")
	k.edges(t, "5 1,6 2,7 1 2 3 4,8 1 5,9 8")
	k.script(t, "3-: 4-: 2-:6 1-:5,8,7")
	k.has(t, 5, "5 8", "")
	k.has(t, 6, "6A", "")
	k.has(t, 7, "7A", "")
	k.edges(t, "9 8")
	k.script(t, "6-: 5-: 7-: 8-:9 9-:")
	k.holds(t)
}

// TestP16_1GrantsOverSeveralItems has those that wait for one's items be granted by rising item, whoever came first.
func TestP16_1GrantsOverSeveralItems(t *testing.T) {
	k := made()
	k.script(t, "1a3 1a1 1s2 1a-4 1a0")
	k.script(t, "2a2:wait 3a3:wait 4s1:wait 5s3:wait 6s1:wait 7a0:wait 8s-4:wait 9s-4:wait 10a2:wait")
	k.script(t, "1-:8,9,7,4,6,2,3")
	k.edges(t, "5 3,10 2")
	k = made() // with one that waits too
	k.script(t, "1a5 2a3 2a9 2s5:wait 3s5:wait 4a9:wait 6a3:wait 7s3:wait 2-:6,4 1-:3 6-:7")
	k = made() // the item that it waited for is among those that it held
	k.script(t, "9s5 1s5 1a4 1a6 1a5:wait 2s5:wait 3s6:wait 4s4:wait 8s5:wait 1-:4,2,8,3")
	k = made() // those of other items stay
	k.script(t, "1a1 2a2 3a3 4s1:wait 5s2:wait 6s3:wait 2-:5 3-:6 1-:4")
	k = made() // one that goes on at an item stands behind another one at none
	k.script(t, "1a1 2a2 3a1:wait 4a2:wait 5a2:wait 6a1:wait 1-:3 2-:4 4-:5 3-:6")
}

// TestP16_1ItemsAreAnyInts has the ends of them, and those of like last bits.
func TestP16_1ItemsAreAnyInts(t *testing.T) {
	items := []int{math.MinInt, math.MinInt + 1, math.MinInt32, -1 << 20, -17, -1, 0, 1, 16, 17, 1 << 20, 1 << 31, 1 << 32, 1<<32 + 1, 1 << 62, math.MaxInt - 1, math.MaxInt}
	for _, item := range items {
		k := made()
		k.script(t, strings.ReplaceAll("1sX 2sX 3aX:wait 4sX:wait 1aX:wait", "X", fmt.Sprint(item)))
		k.has(t, item, "1 2", "1A 3A 4")
		for _, o := range items {
			if is, _ := k.table.Holds(1, o); is != (o == item) {
				t.Errorf("%d is held, and %d: %v", item, o, is)
			}
		}
		if on, alone, ok := k.table.Waits(3); on != item || !alone || !ok {
			t.Errorf("Waits(3): %d, %v, %v, want %d", on, alone, ok, item)
		}
		k.script(t, "2-:1 1-:3 3-:4")
	}
	k := made()
	for i := range 15 {
		k.ask(t, 16, items[14-i], i%2 == 0)
	}
	for i := range 15 { // the one that waits for the greatest item asks first
		k.ask(t, 15-i, items[14-i], true)
	}
	k.holds(t)
	k.script(t, "16-:1,2,3,4,5,6,7,8,9,10,11,12,13,14,15")
}

// TestP16_1AllSessions has all of them at one item: sharing it, waiting for it, and each in the way of all others.
func TestP16_1AllSessions(t *testing.T) {
	k := made()
	for s := 1; s <= 16; s++ {
		k.ask(t, s, 5, false)
	}
	k.has(t, 5, "1 2 3 4 5 6 7 8 9 10 11 12 13 14 15 16", "")
	for s := 16; s >= 1; s-- {
		if e := k.ask(t, s, 5, true); e != api.ErrWait {
			t.Errorf("Ask: %d", e)
		}
		k.holds(t)
	}
	if l := k.table.Edges(); len(l) != 240 {
		t.Errorf("Edges: %v", l)
	}
	for s := 1; s <= 14; s++ {
		k.script(t, fmt.Sprint(s, "-:"))
	}
	k.script(t, "15-:16 16-:")
	for _, alone := range []bool{true, false} {
		k.ask(t, 16, 5, true)
		for s := 1; s <= 15; s++ {
			k.ask(t, s, 5, alone)
			k.holds(t)
		}
		if l := k.table.Edges(); len(l) != 15*16/2 {
			t.Errorf("Edges: %v", l)
		}
		for s := 16; s >= 1; s-- {
			k.release(t, s)
			k.holds(t)
		}
	}
}

func TestP16_1NoSession(t *testing.T) {
	k := made()
	for _, calls := range []string{"", "1a5 16s7 2s5:wait 3s7"} { // of a table that has nothing, and of one that has something
		k.script(t, calls)
		for _, s := range []int{0, 17, 18, 32, 33, 256, 257, 1 << 16, 1<<32 + 1, 1 << 62, math.MaxInt, -1, -2, -15, -16, -17, -255, -1<<32 + 1, math.MinInt, math.MinInt + 1} {
			for _, alone := range []bool{false, true} {
				for _, item := range []int{5, 0, s, 7} {
					if e := k.ask(t, s, item, alone); e != api.ErrRange {
						t.Errorf("Ask of %d: %d", s, e)
					}
				}
			}
			if l, e := k.table.Release(s); len(l) != 0 || e != api.ErrRange {
				t.Errorf("Release(%d): %v, %d", s, l, e)
			}
			if a, b := k.table.Holds(s, 5); a || b {
				t.Errorf("Holds(%d, 5): %v, %v", s, a, b)
			}
			if item, alone, ok := k.table.Waits(s); item != 0 || alone || ok {
				t.Errorf("Waits(%d): %d, %v, %v", s, item, alone, ok)
			}
			if l := k.table.Blockers(s); len(l) != 0 {
				t.Errorf("Blockers(%d): %v", s, l)
			}
			k.holds(t)
		}
	}
	k.script(t, "17-:range 0-:range -1-:range")
	k.has(t, 5, "1A", "2")
}

// TestP16_1WhoWaitsAsksNoMore has one that waits ask: for what it waits for, for what it holds, and for what is free.
func TestP16_1WhoWaitsAsksNoMore(t *testing.T) {
	each(t, [][4]string{
		{"1s5 2a5:wait 2a5:state 2s5:state 2s6:state 2a6:state", "1", "2A", "2 1"},
		{"1a5 2s5:wait 2a5:state 2s5:state 2s6:state", "1A", "2", "2 1"},
		{"1s5 2s5 2a5:wait 2s5:state 2a5:state", "1 2", "2A", "2 1"},
		{"1s5 2a6 2s7 2a5:wait 2a6:state 2s6:state 2s7:state 2a7:state", "1", "2A", "2 1"},
		{"1s5 2a5:wait 3s5:wait 3s5:state 3a9:state 2-:3 3s5 3a9", "1 3", "", ""},
		{"1s5 2a5:wait 2s9:state 1-:2 2s9 2a5", "2A", "", ""},
		{"1s5 2a5:wait 2s9:state 2-: 2s9 2s5", "1 2", "", ""},
	})
	k := made()
	k.script(t, "1s5 2a5:wait 2a6:state 2s0:state")
	k.has(t, 6, "", "")
	k.has(t, 0, "", "")
	k.script(t, "3a6 3a0 2-: 1-:")
}

// TestP16_1TwoTables has each go its own way.
func TestP16_1TwoTables(t *testing.T) {
	a, b := made(), made()
	a.script(t, "1a5 2s5:wait")
	b.holds(t)
	b.script(t, "2a5 1s5:wait 3s6")
	a.holds(t)
	a.script(t, "1-:2")
	b.script(t, "1-: 2-:")
	a.holds(t)
}

// TestP16_1ManyItems has one that holds very many, and others that wait for some of them.
func TestP16_1ManyItems(t *testing.T) {
	table := lock.New()
	const n = 200000
	for i := range n {
		if e := table.Ask(1, i*7919%n, i%3 == 0); e != api.OK {
			t.Fatalf("Ask: %d", e)
		}
		table.Ask(2, -1-i, true)
	}
	for s := 3; s <= 16; s++ {
		if e := table.Ask(s, n-s, true); e != api.ErrWait {
			t.Errorf("Ask: %d", e)
		}
	}
	if l, e := table.Release(1); e != api.OK || fmt.Sprint(l) != "[16 15 14 13 12 11 10 9 8 7 6 5 4 3]" {
		t.Errorf("Release: %v, %d", l, e)
	}
	for i := range n {
		if is, _ := table.Holds(1, i); is {
			t.Fatalf("1 holds %d still", i)
		}
		if is, alone := table.Holds(2, -1-i); !is || !alone {
			t.Fatalf("2 holds %d no more", -1-i)
		}
	}
}
