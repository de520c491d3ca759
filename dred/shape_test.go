package dred

import (
	"math/rand"
	"reflect"
	"testing"

	"rhizome/api"
)

// drawn are some edges between few nodes, each once: those of the even places, or of the odd ones.
func drawn(r *rand.Rand, odd int) []api.Edge {
	var out []api.Edge
	for i := range 36 {
		if i%2 == odd && r.Intn(3) == 0 {
			out = append(out, api.Edge{From: 1 + i/6, Label: "a", To: 1 + i%6})
		}
	}
	return out
}

// of is what New answers.
func of(t *testing.T, edges []api.Edge) *Dred {
	t.Helper()
	d, e := New("a", edges)
	if e != api.OK {
		t.Fatalf("New of %v: %d", edges, e)
	}
	return d
}

// same tells whether two keep the same; how many pairs the last Do derived again is none of it.
func same(a, b *Dred) bool {
	c := *a
	c.over = b.over
	return reflect.DeepEqual(&c, b)
}

// TestP14_2NothingIsLeft has edges come and go: what is kept is what was kept, to the last map.
func TestP14_2NothingIsLeft(t *testing.T) {
	r := rand.New(rand.NewSource(1411))
	for range 1000 {
		stay, come := drawn(r, 0), drawn(r, 1)
		d, as := of(t, stay), of(t, stay)
		for _, add := range []bool{true, false} {
			if _, e := d.Do(come, add); e != api.OK {
				t.Fatalf("Do of %v, %v: %d", come, add, e)
			}
		}
		if !same(d, as) {
			t.Fatalf("%v: %v came and went, and left something", stay, come)
		}
		d.Do(come, true)
		if all := of(t, append(come, stay...)); !same(d, all) {
			t.Fatalf("%v and then %v: other things than of all at New", stay, come)
		}
		d.Do(stay, false)
		d.Do(come, false)
		if !same(d, of(t, nil)) {
			t.Fatalf("%v, and %v: all went, and left something", stay, come)
		}
	}
}

// TestP14_1ARefusedDoLeavesNothing has calls that are refused in their middle, and at their last edge.
func TestP14_1ARefusedDoLeavesNothing(t *testing.T) {
	edges := func(pairs ...int) []api.Edge {
		var out []api.Edge
		for i := 0; i < len(pairs); i += 2 {
			out = append(out, api.Edge{From: pairs[i], Label: "a", To: pairs[i+1]})
		}
		return out
	}
	stay := edges(1, 2, 2, 3, 1, 4, 4, 3, 3, 5)
	var many []api.Edge
	for i := range api.MaxTuples {
		many = append(many, api.Edge{From: 10 + i, Label: "a", To: 1})
	}
	d, as := of(t, stay), of(t, stay)
	for _, x := range []*Dred{d, as} {
		if _, e := x.Do(stay[1:2], false); e != api.OK || x.over == 0 {
			t.Fatalf("Do: %d, %d derived again", e, x.over)
		}
	}
	for _, c := range []struct {
		edges []api.Edge
		add   bool
		want  api.Errno
	}{
		{many, true, api.ErrFull}, {append(many[:900:900], edges(3, 1)...), true, api.ErrFull}, {append(edges(3, 1), many...), true, api.ErrFull},
		{edges(7, 1, 1, 2, 8, 1), true, api.ErrTwice}, {edges(7, 1, 8, 1, 4, 3), true, api.ErrTwice}, {edges(7, 1, 8, 1, 7, 1), true, api.ErrTwice},
		{edges(1, 2, 2, 3, 4, 3), false, api.ErrNone}, {edges(1, 2, 4, 3, 2, 3), false, api.ErrNone}, {edges(1, 2, 4, 3, 1, 2), false, api.ErrTwice}, {edges(1, 2, 1, 2, 4, 3), false, api.ErrTwice},
	} {
		if got, e := d.Do(c.edges, c.add); e != c.want || got.Add != nil || got.Del != nil {
			t.Errorf("Do: %d and %d tuples, %d, want %d", len(got.Add), len(got.Del), e, c.want)
		}
		if !reflect.DeepEqual(d, as) {
			t.Fatalf("Do, %d: something was left", c.want)
		}
	}
}

// toldOver is how many pairs of the span have ways that these edges, which went, were in.
func toldOver(ahead, behind *Dred, gone []api.Edge) int {
	n := 0
	for _, p := range behind.Read() {
		for _, e := range gone {
			if (p[0] == e.From || ahead.Has(p[0], e.From)) && (p[1] == e.To || ahead.Has(e.To, p[1])) {
				n++
				break
			}
		}
	}
	return n
}

// TestP14_1OverTellsWhatWasDerivedAgain holds Over to the pairs that are there, and had ways over the edges that went.
func TestP14_1OverTellsWhatWasDerivedAgain(t *testing.T) {
	r := rand.New(rand.NewSource(1412))
	some := 0
	for range 2000 {
		stay, gone := drawn(r, 0), drawn(r, 1)
		gone = gone[:min(len(gone), 1+r.Intn(3))]
		d := of(t, append(gone, stay...))
		ahead := of(t, append(gone, stay...))
		if d.Over() != 0 {
			t.Fatalf("Over at first: %d", d.Over())
		}
		d.Do(gone, false)
		if want := toldOver(ahead, d, gone); d.Over() != want {
			t.Fatalf("%v, of which %v went: Over %d, want %d", stay, gone, d.Over(), want)
		}
		if d.Over() > 0 {
			some++
		}
		was := d.Over()
		if d.Do(gone, false); len(gone) > 0 && d.Over() != was {
			t.Fatalf("Over behind a Do that was refused: %d, was %d", d.Over(), was)
		}
		if d.Do(gone, true); d.Over() != 0 {
			t.Fatalf("Over with add: %d", d.Over())
		}
	}
	if some < 500 {
		t.Errorf("only %d times some", some)
	}
}
