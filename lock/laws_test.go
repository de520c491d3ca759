package lock_test

import (
	"math/rand"
	"slices"
	"testing"

	"rhizome/api"
	"rhizome/lock"
)

// allLists has all lists of n calls of so many sessions and items: each is done, and then the table is held to the model.
func allLists(t *testing.T, n, sess, items int) {
	t.Helper()
	calls := sess * (2*items + 1)
	lists := 1
	for range n {
		lists *= calls
	}
	for list := range lists {
		k := made()
		for range n {
			call := list % calls
			list /= calls
			s, what := 1+call%sess, call/sess
			if what == 2*items {
				k.release(t, s)
			} else {
				k.ask(t, s, what/2, what%2 == 1)
			}
		}
		k.holds(t)
		k.sharedOrAlone(t)
	}
}

func TestP16_1AllListsOfCalls(t *testing.T) {
	allLists(t, 5, 2, 2)
	allLists(t, 5, 3, 1)
	allLists(t, 4, 3, 2)
	allLists(t, 4, 4, 1)
	allLists(t, 6, 2, 1)
}

// TestP16_1Drawn has lists of calls that are drawn, of few sessions or many, and few items or many.
func TestP16_1Drawn(t *testing.T) {
	r := rand.New(rand.NewSource(1601))
	waits, granted, several := 0, 0, 0
	for range 600 {
		k, h := made(), handOf(r)
		for range 60 {
			k.draw(t, h)
			k.holds(t)
		}
		for s := range 17 {
			_, queue := k.waits(s)
			waits += count(queue != nil)
			l := k.release(t, s)
			granted += len(l)
			several += count(len(l) > 2)
			k.holds(t)
		}
	}
	if waits < 1500 || granted < 800 || several < 20 {
		t.Errorf("%d that wait, %d granted, %d times several", waits, granted, several)
	}
}

// sharedOrAlone holds what Holds, Waits and Blockers tell to P16.2.
func (k *kept) sharedOrAlone(t *testing.T) {
	t.Helper()
	for _, item := range k.items() {
		holders, alone := 0, 0
		for s := 1; s <= api.MaxSess; s++ {
			is, so := k.table.Holds(s, item)
			holders += count(is)
			alone += count(so)
		}
		if alone > 0 && holders > 1 {
			t.Fatalf("%s: %d is held by %d, %d of them alone", k.told(), item, holders, alone)
		}
	}
	for s := 1; s <= api.MaxSess; s++ {
		if item, alone, ok := k.table.Waits(s); ok && !k.isBarred(s, item, alone) && !k.isBehind(s, item) {
			t.Fatalf("%s: %d waits for %d, but is fit, and stands behind nobody", k.told(), s, item)
		}
	}
}

// isBarred tells whether others hold an item so that an ask for it isn't fit.
func (k *kept) isBarred(s, item int, alone bool) bool {
	for o := 1; o <= api.MaxSess; o++ {
		if is, so := k.table.Holds(o, item); o != s && is && (so || alone) {
			return true
		}
	}
	return false
}

// isBehind tells whether one of a session's blockers waits for the item, too.
func (k *kept) isBehind(s, item int) bool {
	return slices.ContainsFunc(k.table.Blockers(s), func(o int) bool {
		on, _, ok := k.table.Waits(o)
		return ok && on == item && o != s
	})
}

// TestP16_2SharedOrAlone holds it behind each call of lists that are drawn.
func TestP16_2SharedOrAlone(t *testing.T) {
	r := rand.New(rand.NewSource(1602))
	for range 1500 {
		k, h := made(), handOf(r)
		for range 60 {
			k.draw(t, h)
			k.sharedOrAlone(t)
		}
	}
}

// TestP16_2Rows holds it in tables that are told: one that holds alone is alone, and each that waits has a cause.
func TestP16_2Rows(t *testing.T) {
	for _, calls := range []string{
		"1a5 2s5:wait 3a5:wait 4s5:wait 1-:2",
		"1s5 2s5 3s5 1a5:wait 2-: 3-:1",
		"1s5 2a5:wait 3s5:wait 1a5 1-:2 2-:3",
		"1s5 2s5 1a5:wait 2a5:wait 3s5:wait 2-:1 1-:3",
		"1s5 2a5:wait 3s5:wait 4s5:wait 5a5:wait 6s5:wait 2-:3,4 1-: 3-: 4-:5",
	} {
		k := made()
		k.script(t, calls)
		k.sharedOrAlone(t)
	}
}

// TestP16_2BlockersSayWhy has each that waits have blockers, never itself, each once, rising; and who doesn't, none.
func TestP16_2BlockersSayWhy(t *testing.T) {
	r := rand.New(rand.NewSource(1603))
	for range 500 {
		k, h := made(), handOf(r)
		for range 60 {
			k.draw(t, h)
			for s := 1; s <= api.MaxSess; s++ {
				l := k.table.Blockers(s)
				_, _, waits := k.table.Waits(s)
				if waits != (len(l) > 0) || slices.Contains(l, s) || !slices.IsSorted(l) || len(slices.Compact(slices.Clone(l))) != len(l) {
					t.Fatalf("%s: Blockers(%d): %v", k.told(), s, l)
				}
			}
		}
	}
}

// thoseThat are the sessions, rising, of which a function is true.
func thoseThat(is func(s int) bool) []int {
	var out []int
	for s := 1; s <= api.MaxSess; s++ {
		if is(s) {
			out = append(out, s)
		}
	}
	return out
}

func (k *kept) waitsNow(s int) bool {
	_, _, ok := k.table.Waits(s)
	return ok
}

func (k *kept) holdsSome(s int) bool {
	return slices.ContainsFunc(k.items(), func(item int) bool {
		is, _ := k.table.Holds(s, item)
		return is
	})
}

// drawnTable is one behind calls that are drawn, in which some wait.
func drawnTable(t *testing.T, r *rand.Rand) *kept {
	t.Helper()
	k, h := made(), handOf(r)
	for range 50 {
		k.draw(t, h)
	}
	return k
}

// TestP16_3AllThatHoldRelease has all that hold release, again and again, till nobody waits: each that waited was granted
// what it waited for, but those that gave up their place, since they held something.
func TestP16_3AllThatHoldRelease(t *testing.T) {
	r := rand.New(rand.NewSource(1604))
	waited, most := 0, 0
	for range 1500 {
		k := drawnTable(t, r)
		left := thoseThat(func(s int) bool { return k.waitsNow(s) && !k.holdsSome(s) })
		waited += len(left)
		rounds := 0
		for ; len(thoseThat(k.waitsNow)) > 0; rounds++ {
			if rounds > api.MaxSess {
				t.Fatalf("%s: %v wait still", k.told(), thoseThat(k.waitsNow))
			}
			for _, s := range thoseThat(k.holdsSome) {
				for _, o := range k.release(t, s) {
					left = slices.DeleteFunc(left, func(s int) bool { return s == o })
				}
			}
		}
		if most = max(most, rounds); len(left) > 0 {
			t.Fatalf("%s: %v were never granted", k.told(), left)
		}
	}
	if waited < 4000 || most < 6 {
		t.Errorf("%d waited, in %d rounds at most", waited, most)
	}
}

// TestP16_3ThoseThatGoOnRelease has one at a time release that doesn't wait; or, if all that hold wait, in a ring, one of
// them. All others are granted what they waited for, and hold it.
func TestP16_3ThoseThatGoOnRelease(t *testing.T) {
	r := rand.New(rand.NewSource(1605))
	rings, granted := 0, 0
	for range 1500 {
		k := drawnTable(t, r)
		for len(thoseThat(k.waitsNow)) > 0 {
			l := thoseThat(func(s int) bool { return k.holdsSome(s) && !k.waitsNow(s) })
			if len(l) == 0 {
				l = thoseThat(k.holdsSome)
				rings++
			}
			if len(l) == 0 {
				t.Fatalf("%s: %v wait, and nobody holds anything", k.told(), thoseThat(k.waitsNow))
			}
			one := l[r.Intn(len(l))]
			wait := thoseThat(k.waitsNow)
			got := k.release(t, one)
			granted += len(got)
			for _, s := range wait {
				if s != one && k.waitsNow(s) == slices.Contains(got, s) {
					t.Fatalf("%s: %d waits: %v", k.told(), s, k.waitsNow(s))
				}
			}
			k.holds(t)
		}
	}
	if rings < 100 || granted < 4000 {
		t.Errorf("%d rings, %d granted", rings, granted)
	}
}

// TestP16_1WhoComesFirstIsServedFirst has many wait for one item: each that is alone goes on by itself, in the order in
// which they came; one that comes in between, and would be fit, isn't served ahead of them.
func TestP16_1WhoComesFirstIsServedFirst(t *testing.T) {
	k := made()
	k.script(t, "1s5 9a5:wait 2s5:wait 8a5:wait 3s5:wait 4s5:wait 7a5:wait")
	k.script(t, "1-:9 1s5:wait 9-:2 9s5:wait 2-:8 2s5:wait 8-:3,4 4-: 4s5:wait 3-:7 7-:1,9,2,4")
	k.edges(t, "")
	for n := range 16 {
		table := lock.New()
		table.Ask(16, 5, true)
		for i := range 15 {
			table.Ask(1+(n+i)%15, 5, true)
		}
		last := 16
		for i := range 15 {
			l, e := table.Release(last)
			if last = 1 + (n+i)%15; e != api.OK || len(l) != 1 || l[0] != last {
				t.Fatalf("Release: %v, %d, want %d", l, e, last)
			}
		}
	}
}
