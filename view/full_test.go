package view_test

import (
	"slices"
	"testing"

	"rhizome/api"
	"rhizome/view"
)

// fullCases are views that just aren't too great in the edges, with so many tuples; each of more makes them too great.
// A pattern has no more than 3000 rows, so no result comes to 4000 tuples without it being too great.
func fullCases() []struct {
	s           string
	edges, more []api.Edge
	n           int
} {
	return []struct {
		s           string
		edges, more []api.Edge
		n           int
	}{
		{"= reach a", apart("a", 4000, 1), graph("9001 a 9001, 2 a 3, 1 a 1, 8000 a 1"), 4000},
		{"= reach a", fan(1, "a", 4000, 2), graph("1 a 9999, 5 a 6, 1 a 1, 7 a 7"), 4000},
		{"= reach a", hub(1, "a", 4000, 2), graph("9999 a 1, 5 a 6, 1 a 1, 7 a 7"), 4000},
		{"= reach a", append(ring(63, 1), apart("a", 31, 5001)...), graph("70 a 70, 63 a 64, 64 a 63, 5001 a 5003"), 4000},
		{"= reach a", append(row(89, 1), apart("a", 84, 5001)...), graph("89 a 90, 1 a 1, 5001 a 5003"), 4000},
		{"= reach a", append(append(ring(44, 1), ring(45, 101)...), apart("a", 39, 5001)...), graph("1 a 101, 145 a 44, 70 a 71"), 4000},
		{"(x) = a(x, y)", apart("a", 3000, 1), graph("1 a 1, 2 a 1, 9001 a 9001"), 3000},
		{"(x) = a(x, y)", fan(1, "a", 3000, 2), graph("1 a 1, 2 a 1"), 1},
		{"(x, y) = a(x, y), a(x, y)", apart("a", 3000, 1), graph("1 a 1, 2 a 1"), 3000},
		{"(x, z) = a(x, y), b(y, z)", append(hub(1, "a", 30, 200), fan(1, "b", 100, 500)...), graph("7 a 1, 1 b 2, 1 b 1"), 3000},
		{"(x) = a(x, y), b(y, z), c(z, x)", append(hub(1, "a", 30, 200), fan(1, "b", 100, 500)...), graph("7 a 1, 1 b 2"), 0},
		{"(w) = a(x, y), b(z, w)", append(hub(1, "a", 60, 200), fan(1, "b", 50, 500)...), graph("7 a 1, 1 b 2, 9 b 500"), 50},
	}
}

func TestP18_1TooGreat(t *testing.T) {
	for _, c := range fullCases() {
		v := of(c.s)
		k := made(t, v, c.edges)
		k.counts(t, c.n)
		for _, e := range c.more {
			one := []api.Edge{e}
			fails(t, v, append(slices.Clone(c.edges), e), api.ErrFull)
			fails(t, v, append(one, c.edges...), api.ErrFull)
			k.refused(t, nil, one, api.ErrFull)
		}
		fails(t, v, slices.Concat(c.more, c.edges, c.more), api.ErrFull)
		made(t, v, slices.Concat(c.edges, c.edges)) // twice is once
		k.refused(t, nil, c.more, api.ErrFull)
		k.refused(t, nil, graph("1 other 2, 2 other 1"), api.OK)
		k.counts(t, c.n)
	}
}

// TestP18_1TooGreatBehindADo has edges go that make room, and others come that take it, or just too much.
func TestP18_1TooGreatBehindADo(t *testing.T) {
	for _, c := range fullCases() {
		k := made(t, of(c.s), c.edges)
		last := c.edges[len(c.edges)-1:]
		for _, e := range c.more {
			k.refused(t, graph("1 other 2"), []api.Edge{e}, api.ErrNone)
			k.refused(t, last, append(slices.Clone(last), e), api.ErrFull) // it goes and comes back
			k.refused(t, c.edges, append(slices.Clone(c.edges), e), api.ErrFull)
			k.refused(t, c.edges, []api.Edge{e}, api.OK)
			k.refused(t, []api.Edge{e}, c.edges, api.OK)
		}
		k.counts(t, c.n)
		k.refused(t, last, nil, api.OK)
		k.refused(t, nil, last, api.OK)
		k.refused(t, nil, c.more[:1], api.ErrFull)
		k.refused(t, c.edges, nil, api.OK)
		k.refused(t, nil, append(slices.Clone(c.edges), c.more[0]), api.ErrFull)
		k.is(t, "")
		k.refused(t, nil, c.edges, api.OK)
		k.counts(t, c.n)
	}
}

// TestP18_1RoomForJustOne has a Do whose edges would be too many, if those that go weren't gone ahead of them.
func TestP18_1RoomForJustOne(t *testing.T) {
	k := made(t, of("= reach a"), apart("a", 4000, 1))
	k.done(t, "1 a 2", "1 a 9999", "(1 9999)", "(1 2)")
	k.done(t, "1 a 9999, 3 a 4", "3 a 2, 4 a 1", "(3 2)(4 1)", "(1 9999)(3 4)")
	k.refused(t, graph("3 a 2"), graph("3 a 4, 1 a 2"), api.ErrFull)
	k.refused(t, graph("3 a 2, 5 a 6"), graph("3 a 4, 4 a 5"), api.ErrFull)
	k.refused(t, graph("3 a 2, 5 a 6, 7 a 8"), graph("3 a 4, 4 a 5"), api.ErrFull) // (3 1) and (3 5), too
	k.refused(t, graph("3 a 2, 5 a 6, 7 a 8, 9 a 10"), graph("3 a 4, 4 a 5"), api.OK)
	k.counts(t, 4000)
	k = made(t, of("(x, y) = a(x, y)"), apart("a", 3000, 1))
	k.done(t, "1 a 2", "1 a 9999", "(1 9999)", "(1 2)")
	k.refused(t, graph("1 a 9999"), graph("1 a 2, 1 a 3"), api.ErrFull)
	k.done(t, "1 a 9999, 5999 a 6000", "1 a 2, 1 a 3", "(1 2)(1 3)", "(1 9999)(5999 6000)")
	k = made(t, of("(x, z) = a(x, y), b(y, z)"), append(hub(1, "a", 30, 200), fan(1, "b", 100, 500)...))
	k.refused(t, graph("1 b 500"), graph("7 a 1"), api.ErrFull) // 31 times 99
	k.refused(t, fan(1, "b", 4, 500), graph("7 a 1"), api.OK)
	k.counts(t, 31*96)
}

// TestP18_1FullEdgeByEdge comes there by single edges: the first one too many is refused.
func TestP18_1FullEdgeByEdge(t *testing.T) {
	for s, most := range map[string]int{"= reach a": 4000, "(x, y) = a(x, y)": 3000} {
		v := of(s)
		k, e := view.New(v, nil)
		if e != api.OK {
			t.Fatal(e)
		}
		edges := apart("a", most+1, 1)
		for i, edge := range edges {
			want := api.OK
			if i == most {
				want = api.ErrFull
			}
			if d, e := k.Do(nil, []api.Edge{edge}); e != want || len(d.Add) != min(1, most-i) || len(d.Del) != 0 {
				t.Fatalf("%s, %d: %v, %d", s, i, d, e)
			}
		}
		if got := k.Read(); len(got) != most {
			t.Errorf("%s: %d", s, len(got))
		}
		for _, edge := range edges[:most] {
			if d, e := k.Do([]api.Edge{edge}, nil); e != api.OK || len(d.Add) != 0 || len(d.Del) != 1 {
				t.Fatalf("%s, %v: %v, %d", s, edge, d, e)
			}
		}
	}
}

// TestP18_1ResultOfMaxTuples has patterns whose results would have 4000 tuples, and one more, and fewer: more than 3000
// rows are too many whatever the result is.
func TestP18_1ResultOfMaxTuples(t *testing.T) {
	for _, n := range []int{3000, 3001, api.MaxTuples, api.MaxTuples + 1} {
		for _, s := range []string{"(x, y) = a(x, y)", "(x) = a(x, y)", "(y, x) = a(x, y), a(x, y)"} {
			if n == 3000 {
				made(t, of(s), apart("a", n, 1)).counts(t, n)
				continue
			}
			fails(t, of(s), apart("a", n, 1), api.ErrFull)
			k := made(t, of(s), apart("a", 3000, 1))
			k.refused(t, nil, apart("a", n, 1)[3000:], api.ErrFull)
			k.refused(t, apart("a", 3000, 1), apart("a", n, 1), api.ErrFull)
			k.counts(t, 3000)
		}
	}
}

// TestP18_1WhichErrorOfSeveral has lists that are wrong in more than one way: ErrNone is told ahead of ErrTwice, and
// that ahead of ErrFull.
func TestP18_1WhichErrorOfSeveral(t *testing.T) {
	for _, c := range fullCases() {
		k := made(t, of(c.s), c.edges)
		first, more := c.edges[0], c.more[0]
		none := api.Edge{From: 77, Label: "a", To: 78777}
		for _, x := range []struct {
			gone, come []api.Edge
			want       api.Errno
		}{
			{[]api.Edge{first, first, none}, []api.Edge{more}, api.ErrNone}, {[]api.Edge{none}, []api.Edge{more, more}, api.ErrNone}, {[]api.Edge{none}, []api.Edge{more, first}, api.ErrNone}, {[]api.Edge{more}, []api.Edge{more}, api.ErrNone},
			{[]api.Edge{first, first}, []api.Edge{first, more}, api.ErrTwice}, {nil, []api.Edge{more, first}, api.ErrTwice}, {nil, []api.Edge{more, more}, api.ErrTwice}, {[]api.Edge{first}, []api.Edge{more, first, first}, api.ErrTwice},
			{[]api.Edge{first}, []api.Edge{more, first}, api.ErrFull},
		} {
			k.refused(t, x.gone, x.come, x.want)
		}
		k.counts(t, c.n)
	}
}

// TestP18_1AFullViewGoesOn has a Do that is refused as too great, and others behind it: nothing of it was kept, and all
// that it had go is there again.
func TestP18_1AFullViewGoesOn(t *testing.T) {
	k := made(t, of("= reach a"), append(row(60, 1), row(60, 101)...))
	k.refused(t, graph("5 a 6, 110 a 111"), graph("5 a 6, 7 a 3, 110 a 111, 200 a 201, 60 a 101"), api.ErrFull)
	k.refused(t, nil, graph("60 a 101"), api.ErrFull)
	k.refused(t, graph("30 a 31"), graph("60 a 101, 160 a 1"), api.ErrFull)
	k.refused(t, nil, graph("200 a 201, 7 a 3"), api.OK)
	k.refused(t, graph("7 a 3"), graph("60 a 101"), api.ErrFull)
	k.refused(t, graph("30 a 31, 130 a 131, 20 a 21"), graph("60 a 101"), api.OK)
	k.refused(t, graph("60 a 101"), graph("30 a 31, 130 a 131, 20 a 21"), api.OK)
	k = made(t, of("(x, z) = a(x, y), b(y, z)"), append(hub(1, "a", 30, 200), fan(1, "b", 100, 500)...))
	k.refused(t, graph("200 a 1, 1 b 500"), graph("2 a 3, 3 b 4, 7 a 1, 8 a 1, 9 a 1"), api.ErrFull)
	k.refused(t, nil, graph("2 a 3, 3 b 4"), api.ErrFull)
	k.refused(t, nil, graph("2 a 3"), api.OK) // a row of the first atom alone
	k.refused(t, graph("200 a 1"), graph("3 b 4, 7 a 1"), api.ErrFull)
	k.refused(t, graph("200 a 1"), graph("3 b 4"), api.OK)
	k.refused(t, graph("3 b 4"), graph("200 a 1"), api.OK)
	k.refused(t, nil, graph("7 a 1"), api.ErrFull)
}

// TestP18_1FarTooGreat has views of which all could never be made.
func TestP18_1FarTooGreat(t *testing.T) {
	eight := of("(x) = a(x, y), a(z, w), a(v, u), a(t, s), a(r, q), a(p, o), a(n, m), a(l, k)")
	long := row(30000, 10)
	for _, v := range []api.View{eight, of("= reach a")} {
		fails(t, v, long, api.ErrFull)
		k := made(t, v, nil)
		k.refused(t, nil, long, api.ErrFull)
		k.refused(t, nil, graph("1 a 2, 2 a 3"), api.OK)
		k.refused(t, graph("1 a 2"), long, api.ErrFull)
		k.refused(t, long, nil, api.ErrNone)
		k.refused(t, graph("1 a 2"), append(long, long[9]), api.ErrTwice)
		k.refused(t, graph("1 a 2, 2 a 3"), graph("1 a 2"), api.OK)
	}
}
