package view

import (
	"maps"
	"slices"
	"strings"
	"testing"

	"rhizome/api"
	"rhizome/dred"
	"rhizome/net"
	"rhizome/query"
)

// standing is what New answers, of what stands behind a view's name.
func standing(t *testing.T, s string, edges []api.Edge) *Standing {
	t.Helper()
	v, _, _, e := query.Parse("view f" + s + ";")
	if e != api.OK {
		t.Fatal(s)
	}
	out, e := New(v, edges)
	if e != api.OK {
		t.Fatalf("New of %s: %d", s, e)
	}
	return out
}

// edgesOf are edges that are told by a label each: "ab" is 1 a 1, 2 b 2.
func edgesOf(labels string) []api.Edge {
	var out []api.Edge
	for i, label := range strings.Split(labels, "") {
		out = append(out, api.Edge{From: i + 1, Label: label, To: i + 1})
	}
	return out
}

// TestP18_1WhatKeepsAContent is a net of a pattern, a dred of a reach.
func TestP18_1WhatKeepsAContent(t *testing.T) {
	if _, ok := standing(t, "(x) = a(x, y)", nil).keeper.(*net.Net); !ok {
		t.Error("a pattern")
	}
	if _, ok := standing(t, "= reach a", nil).keeper.(*dred.Dred); !ok {
		t.Error("a reach")
	}
}

// TestP18_1WhatAKeeperIsTold are the edges that mean something to its content, in their order, and no others.
func TestP18_1WhatAKeeperIsTold(t *testing.T) {
	for s, want := range map[string]string{"(x) = a(x, y)": "a", "(x) = b(x, y), d(y, x), b(x, x)": "bd", "= reach a": "a", "= reach c": "c", "= reach f": ""} {
		k := standing(t, s, edgesOf("abcdxy"))
		var got []string
		for _, e := range k.told(edgesOf("abcdxy")) {
			got = append(got, e.Label)
		}
		if strings.Join(got, "") != want {
			t.Errorf("%s: %v, want %s", s, got, want)
		}
	}
	k := standing(t, "(x) = a(x, y)", edgesOf("abc"))
	if n := k.keeper.(*net.Net); n.Rows() != 1 {
		t.Errorf("%d rows", n.Rows())
	}
	other := edgesOf("abc")[1:2]
	if _, e := k.keeper.Do(other, false); e != api.ErrNone { // the net was never told of it
		t.Errorf("%d", e)
	}
}

// TestP18_1ARefusedDoLeavesNothing has calls that are refused: the edges that are kept are those that were.
func TestP18_1ARefusedDoLeavesNothing(t *testing.T) {
	many := make([]api.Edge, 4001)
	for i := range many {
		many[i] = api.Edge{From: 10 + i, Label: "a", To: 10 + i}
	}
	for _, s := range []string{"(x) = a(x, y)", "= reach a"} {
		stay := edgesOf("abca")
		k := standing(t, s, stay)
		for _, c := range []struct {
			gone, come []api.Edge
			want       api.Errno
		}{
			{stay[:2], many, api.ErrFull}, {nil, many, api.ErrFull}, {append(stay[:2:2], many[0]), many[1:3], api.ErrNone},
			{append(stay[:2:2], stay[0]), many[1:3], api.ErrTwice}, {stay[:2], append(many[:2:2], stay[2]), api.ErrTwice}, {stay[:2], append(many[:2:2], many[0]), api.ErrTwice},
		} {
			if d, e := k.Do(c.gone, c.come); e != c.want || d.Add != nil || d.Del != nil {
				t.Errorf("Do: %v, %d, want %d", d, e, c.want)
			}
			if !maps.Equal(k.edges, setOf(stay)) || len(k.Read()) != 2 {
				t.Errorf("Do, %d: %v, %v", c.want, k.edges, k.Read())
			}
		}
		if _, e := k.Do(stay, many[:3]); e != api.OK || !maps.Equal(k.edges, setOf(many[:3])) {
			t.Errorf("Do: %d, %v", e, k.edges)
		}
		if _, e := k.Do(many[:3], nil); e != api.OK || len(k.edges) != 0 || slices.ContainsFunc(many, k.edges.has) {
			t.Errorf("Do: %d, %v", e, k.edges)
		}
	}
}
