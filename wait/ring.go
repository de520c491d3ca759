package wait

import (
	"cmp"
	"slices"

	"rhizome/api"
)

// Bits are sessions, a bit each.
type bits uint32

func bit(s int) bits { return 1 << s }

func (b bits) has(s int) bool { return b&bit(s) != 0 }

// Waits has at each session's place those for whom it waits. Who waits for nobody is in no ring, whoever waits for it: so
// a victim's edges are gone when the bits at its place are.
type waits [api.MaxSess + 1]bits

// caught are the sessions that are in a ring, rising.
func (w waits) caught() []int {
	var out []int
	for s := 1; s <= api.MaxSess; s++ {
		if w.ring(s) != nil {
			out = append(out, s)
		}
	}
	return out
}

// ring is one in which a session is, from it on; nil, if it is in none. From a way's last session it goes on to one that
// it hasn't come to; where there is none, the last one is left for good: all for whom it waits were come to, so that no way
// back to s needs it.
func (w waits) ring(s int) []int {
	way, come := []int{s}, bit(s)
search:
	for len(way) > 0 {
		last := way[len(way)-1]
		if w[last].has(s) {
			return way
		}
		for next := 1; next <= api.MaxSess; next++ {
			if w[last].has(next) && !come.has(next) {
				way, come = append(way, next), come|bit(next)
				continue search
			}
		}
		way = way[:len(way)-1]
	}
	return nil
}

// victim is the youngest of those that are caught, and true.
func (w waits) victim(born []int) (int, bool) {
	caught := w.caught()
	if len(caught) == 0 {
		return 0, false
	}
	return slices.MaxFunc(caught, func(a, b int) int {
		return cmp.Or(cmp.Compare(birth(born, a), birth(born, b)), cmp.Compare(a, b))
	}), true
}

// birth is the number at a session's place; place 0 is nobody's.
func birth(born []int, s int) int {
	if s >= len(born) {
		return 0
	}
	return born[s]
}
