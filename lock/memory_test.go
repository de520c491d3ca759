package lock_test

import (
	"fmt"
	"math/rand"
	"runtime"
	"slices"
	"testing"

	"rhizome/api"
	"rhizome/lock"
)

// spoil changes all that a list has, spare room too.
func spoil[T any](l []T, with T) {
	l = l[:cap(l)]
	for i := range l {
		l[i] = with
	}
}

// TestP16_4AnswersMayBeChanged spoils each answer behind each call: the table, and what it answers later, stays.
func TestP16_4AnswersMayBeChanged(t *testing.T) {
	r := rand.New(rand.NewSource(1606))
	for range 300 {
		k, h := made(), handOf(r)
		for range 40 {
			k.draw(t, h)
			for s := 1; s <= api.MaxSess; s++ {
				spoil(k.table.Blockers(s), s)
			}
			spoil(k.table.Edges(), [2]int{3, 3})
			k.holds(t)
		}
		for s := 1; s <= api.MaxSess; s++ {
			want, _ := k.wantRelease(s)
			got, e := k.table.Release(s)
			if !slices.Equal(got, want) || e != api.OK {
				t.Fatalf("%s: Release(%d): %v, %d, want %v", k.told(), s, got, e, want)
			}
			spoil(got, 99)
			k.holds(t)
		}
	}
}

// TestP16_4ReleaseMayBeChanged spoils what Release answered, ahead of other calls.
func TestP16_4ReleaseMayBeChanged(t *testing.T) {
	k := made()
	k.script(t, "1a5 1a6 2s5:wait 3s5:wait 4a6:wait 5a5:wait 6s6:wait")
	want, _ := k.wantRelease(1)
	got, e := k.table.Release(1)
	if !slices.Equal(got, want) || e != api.OK || fmt.Sprint(got) != "[2 3 4]" {
		t.Fatalf("Release: %v, %d", got, e)
	}
	spoil(got, 1)
	k.holds(t)
	k.script(t, "2-: 3-:5 4-:6")
}

// TestP16_4AnEarlierAnswerStays has answers that later calls leave as they are, and that share nothing with others.
func TestP16_4AnEarlierAnswerStays(t *testing.T) {
	told := func(l ...any) string { return fmt.Sprint(l...) }
	k := made()
	k.script(t, "1s5 2s5 3a5:wait 4s5:wait 1a5:wait 5s5:wait")
	edges, first, third, fourth := k.table.Edges(), k.table.Blockers(1), k.table.Blockers(3), k.table.Blockers(4)
	again, other := k.table.Edges(), k.table.Blockers(3)
	want := told(edges, first, third, fourth)
	released, _ := k.table.Release(2)
	for s := range 17 {
		k.table.Release(s)
	}
	k.table.Ask(9, 5, true)
	k.table.Ask(8, 5, true)
	k.table.Blockers(8)
	k.table.Edges()
	if got := told(edges, first, third, fourth); got != want || told(released) != "[1]" {
		t.Errorf("%s, was %s; %v", got, want, released)
	}
	spoil(edges, [2]int{})
	spoil(third, 0)
	spoil(released, 0)
	if got := told(again, first, other, fourth); got != want {
		t.Errorf("%s, was %s", got, want)
	}
}

// TestP16_1Alike has the same calls twice: each answers the same.
func TestP16_1Alike(t *testing.T) {
	var first []string
	for range 3 {
		r := rand.New(rand.NewSource(1607))
		for i := range 200 {
			table := lock.New()
			got := ""
			for range 60 {
				s := 1 + r.Intn(16)
				got += fmt.Sprint(table.Ask(s, r.Intn(6)-3, r.Intn(2) == 0))
				if r.Intn(5) == 0 {
					l, e := table.Release(s)
					got += fmt.Sprint(l, e)
				}
			}
			got += fmt.Sprint(table.Edges())
			if len(first) <= i {
				first = append(first, got)
			}
			if got != first[i] {
				t.Errorf("%s, was %s", got, first[i])
			}
		}
	}
}

// heap is how many bytes are in use.
func heap() int {
	runtime.GC()
	runtime.GC()
	var m runtime.MemStats
	runtime.ReadMemStats(&m)
	return int(m.HeapAlloc)
}

// TestP16_1NothingIsLeft has a table keep nothing of what was given up: sessions come and go with ever other items, of
// which they hold some, and wait for some.
func TestP16_1NothingIsLeft(t *testing.T) {
	table := lock.New()
	ahead := heap()
	for i := range 300000 {
		table.Ask(1, 4*i, true)
		table.Ask(1, 4*i+1, false)
		table.Ask(2, 4*i+1, false)
		table.Ask(2, 4*i+1, true)
		table.Ask(3, 4*i, i%2 == 0)
		for s := i % 3; s < i%3+4; s++ { // each of the three at least once, each first at times
			table.Release(1 + s%3)
		}
	}
	if behind := heap(); behind-ahead > 1<<18 {
		t.Errorf("%d bytes are kept", behind-ahead)
	}
	for item := range 8 {
		for s := range 17 {
			if is, _ := table.Holds(s, item); is {
				t.Errorf("%d holds %d still", s, item)
			}
		}
	}
}

// TestP16_1NothingIsLeftOfMany has a table that was great keep nothing of that.
func TestP16_1NothingIsLeftOfMany(t *testing.T) {
	table := lock.New()
	ahead := heap()
	for range 2 {
		for i := range 100000 {
			table.Ask(1+i%3, i/3, false)
		}
		for s := 1; s <= 3; s++ {
			table.Release(s)
		}
	}
	if behind := heap(); behind-ahead > 1<<18 {
		t.Errorf("%d bytes are kept", behind-ahead)
	}
	if is, _ := table.Holds(1, 0); is {
		t.Error("1 holds 0 still")
	}
}
