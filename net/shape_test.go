package net

import (
	"math/rand"
	"reflect"
	"testing"

	"rhizome/api"
	"rhizome/query"
)

func shapes(t *testing.T) []api.View {
	var out []api.View
	for _, s := range []string{"view f(x) = a(x, y);", "view f(x) = a(x, x);", "view f(x, z) = a(x, y), a(y, z);", "view f(w, x) = a(x, y), b(z, w), a(y, z), b(x, x);"} {
		v, _, _, e := query.Parse(s)
		if e != api.OK {
			t.Fatal(s)
		}
		out = append(out, v)
	}
	return out
}

// drawn are some edges of a label, each once.
func drawn(r *rand.Rand, label string) []api.Edge {
	var out []api.Edge
	for i := range 16 {
		if r.Intn(4) == 0 {
			out = append(out, api.Edge{From: 1 + i/4, Label: label, To: 1 + i%4})
		}
	}
	return out
}

// TestP12_2NothingIsLeft has edges come and go: what is kept is what was kept, to the last map.
func TestP12_2NothingIsLeft(t *testing.T) {
	r := rand.New(rand.NewSource(1211))
	for _, v := range shapes(t) {
		for range 200 {
			stay, come := append(drawn(r, "a"), drawn(r, "c")...), drawn(r, "b")
			n, e := New(v, stay)
			as, f := New(v, stay)
			if e != api.OK || f != api.OK || !reflect.DeepEqual(n, as) {
				t.Fatalf("New of %v in %v: %d, %d", v, stay, e, f)
			}
			for _, add := range []bool{true, false} {
				if _, e := n.Do(come, add); e != api.OK {
					t.Fatalf("Do of %v, %v: %d", come, add, e)
				}
			}
			if !reflect.DeepEqual(n, as) {
				t.Fatalf("%v in %v: %v came and went, and left something", v, stay, come)
			}
			n.Do(come, true)
			n.Do(stay, false)
			n.Do(come, false)
			if !reflect.DeepEqual(n, empty(v)) {
				t.Fatalf("%v in %v, and %v: all went, and left something", v, stay, come)
			}
		}
	}
}

// TestP12_1ARefusedDoLeavesNothing has calls that are refused: what is kept is what was kept.
func TestP12_1ARefusedDoLeavesNothing(t *testing.T) {
	for _, v := range shapes(t) {
		stay := []api.Edge{{From: 1, Label: "a", To: 2}, {From: 2, Label: "b", To: 2}, {From: 7, Label: "c", To: 7}}
		n, _ := New(v, stay)
		as, _ := New(v, stay)
		var many []api.Edge
		for i := range 3001 {
			many = append(many, api.Edge{From: 10 + i, Label: "a", To: 10 + i})
		}
		news := api.Edge{From: 3, Label: "a", To: 3}
		for _, c := range []struct {
			edges []api.Edge
			add   bool
			want  api.Errno
		}{
			{many, true, api.ErrFull}, {append(many[:3:3], stay[2]), true, api.ErrTwice}, {[]api.Edge{news, news}, true, api.ErrTwice},
			{append(stay[:3:3], news), false, api.ErrNone}, {append(stay[:3:3], stay[0]), false, api.ErrTwice},
		} {
			if _, e := n.Do(c.edges, c.add); e != c.want {
				t.Errorf("Do of %v: %d, want %d", v, e, c.want)
			}
			if !reflect.DeepEqual(n, as) {
				t.Errorf("Do of %v, %d: something was left", v, c.want)
			}
		}
	}
}
