package wait_test

import (
	"math"
	"math/rand"
	"slices"
	"testing"

	"rhizome/api"
	"rhizome/wait"
)

// TestP17_1Example is the chapter's, call for call.
func TestP17_1Example(t *testing.T) {
	edges, born := [][2]int{{1, 2}, {2, 1}, {3, 1}}, []int{0, 5, 9}
	if l, e := wait.Caught(edges); e != api.OK || !slices.Equal(l, []int{1, 2}) {
		t.Errorf("Caught: %v, %d", l, e)
	}
	if s, ok, e := wait.Victim(edges, born); s != 2 || !ok || e != api.OK {
		t.Errorf("Victim: %d, %v, %d", s, ok, e)
	}
	if l, e := wait.Break(edges, born); e != api.OK || !slices.Equal(l, []int{2}) {
		t.Errorf("Break: %v, %d", l, e)
	}
	if l, e := wait.Ring([][2]int{{4, 4}}, 4); e != api.OK || !slices.Equal(l, []int{4}) {
		t.Errorf("Ring: %v, %d", l, e)
	}
}

// TestP17_1NoEdges has nobody wait.
func TestP17_1NoEdges(t *testing.T) {
	for _, edges := range [][][2]int{nil, {}} {
		for _, born := range [][]int{nil, {}, {0, 5, 9}, make([]int, 40)} {
			caughtAre(t, edges, nil)
			victimsAre(t, edges, born, nil)
			holds(t, edges, born)
		}
	}
}

// TestP17_1Caught tells who is caught, and has each of them, and of all others none, be in what Ring tells.
func TestP17_1Caught(t *testing.T) {
	for _, c := range [][2]string{
		{"1 1", "1"}, {"16 16", "16"}, {"4 4", "4"}, // one ring
		{"1 2, 2 1", "1 2"}, {"1 16, 16 1", "1 16"}, {"8 9, 9 8", "8 9"},
		{"1 2, 2 3, 3 1", "1 2 3"}, {"3 2, 2 1, 1 3", "1 2 3"}, {"16 7, 7 1, 1 9, 9 16", "1 7 9 16"},
		{"1 2", ""}, {"2 1", ""}, {"1 2, 2 3", ""}, {"1 2, 1 3, 2 4, 3 4", ""}, {"1 16, 16 2, 2 15, 15 3", ""}, // none
		{"1 2, 2 1, 2 3, 3 2", "1 2 3"}, {"1 2, 2 3, 3 1, 3 4, 4 2", "1 2 3 4"}, {"5 5, 5 6, 6 5", "5 6"}, {"1 2, 2 3, 3 4, 4 1, 1 3", "1 2 3 4"}, // that share sessions
		{"1 2, 2 1, 3 4, 4 3", "1 2 3 4"}, {"1 2, 2 1, 7 7, 9 10, 10 11, 11 9", "1 2 7 9 10 11"}, {"1 9, 9 1, 2 10, 10 2", "1 2 9 10"}, // apart
		{"1 2, 2 1, 2 3, 3 4, 4 3", "1 2 3 4"}, {"1 1, 1 2, 2 2", "1 2"}, // one waits for the other
		{"1 2, 2 1, 3 1", "1 2"}, {"1 2, 2 1, 3 1, 4 3, 5 4, 5 1", "1 2"}, {"4 4, 3 4, 2 4, 1 4", "4"}, // who wait for one that is caught
		{"1 2, 2 1, 1 3", "1 2"}, {"1 2, 2 1, 2 3, 3 4, 1 5, 5 4", "1 2"}, {"4 4, 4 1, 4 2, 4 16", "4"}, // for whom one that is caught waits
		{"1 2, 2 1, 2 3, 3 4, 4 5, 5 4", "1 2 4 5"}, {"1 1, 1 2, 2 3, 3 3", "1 3"}, {"5 4, 4 5, 4 3, 3 2, 2 1, 1 2, 4 2", "1 2 4 5"}, // between two
		{"1 2, 1 2, 1 2, 2 1, 2 1", "1 2"}, {"1 2, 1 2", ""}, {"3 3, 3 3", "3"}, {"1 2, 2 3, 1 2, 3 2, 2 3", "2 3"}, // several times
	} {
		edges, want := edgesOf(t, c[0]), numbers(t, c[1])
		caughtAre(t, edges, want)
		slices.Reverse(edges)
		caughtAre(t, edges, want)
		caughtAre(t, append(edges, edges...), want)
		holds(t, edges, []int{0, 3, 1, 2})
	}
}

// TestP17_1Ring has sessions that are in one ring alone: it is told from each on.
func TestP17_1Ring(t *testing.T) {
	for _, c := range []struct {
		edges string
		s     int
		want  string
	}{
		{"4 4", 4, "4"}, {"1 1, 16 16", 16, "16"}, {"1 1, 16 16", 1, "1"},
		{"1 2, 2 1, 3 1", 1, "1 2"}, {"1 2, 2 1, 3 1", 2, "2 1"}, {"1 2, 2 1, 3 1", 3, ""}, {"1 2, 2 1, 3 1", 4, ""},
		{"1 2, 2 3, 3 1", 1, "1 2 3"}, {"1 2, 2 3, 3 1", 2, "2 3 1"}, {"1 2, 2 3, 3 1", 3, "3 1 2"},
		{"3 2, 2 1, 1 3", 1, "1 3 2"}, {"3 2, 2 1, 1 3", 2, "2 1 3"}, {"3 2, 2 1, 1 3", 3, "3 2 1"},
		{"16 7, 7 1, 1 9, 9 16", 9, "9 16 7 1"}, {"16 7, 7 1, 1 9, 9 16", 16, "16 7 1 9"},
		{"1 2, 2 1, 2 3, 3 2", 1, "1 2"}, {"1 2, 2 1, 2 3, 3 2", 3, "3 2"}, // they share 2
		{"1 2, 2 1, 2 3, 3 4, 4 3", 1, "1 2"}, {"1 2, 2 1, 2 3, 3 4, 4 3", 4, "4 3"},
		{"5 1, 1 2, 2 3, 5 2, 5 4, 4 6, 4 9, 9 5, 6 3", 5, "5 4 9"}, // other ways lead nowhere
		{"5 1, 1 2, 2 3, 5 2, 5 4, 4 6, 4 9, 9 5, 6 3", 9, "9 5 4"},
		{"8 1, 1 2, 2 1, 1 1, 2 2, 8 15, 15 16, 15 8, 16 16", 8, "8 15"}, // nor others' rings
		{"1 2, 2 3, 3 4, 4 2, 4 5, 5 1", 1, "1 2 3 4 5"},
	} {
		edges := edgesOf(t, c.edges)
		for range 2 {
			if got, e := wait.Ring(edges, c.s); e != api.OK || !slices.Equal(got, numbers(t, c.want)) {
				t.Errorf("Ring(%d) of %v: %v, %d, want %s", c.s, edges, got, e, c.want)
			}
			slices.Reverse(edges)
		}
	}
}

// ring is that of the sessions from 1 on, each n-th one: each waits for the next.
func ring(n int) [][2]int {
	var out [][2]int
	for i := range 16 {
		out = append(out, [2]int{1 + i*n%16, 1 + (i+1)*n%16})
	}
	return out
}

// rising are the numbers from 1 on.
func rising(n int) []int {
	var out []int
	for i := range n {
		out = append(out, i+1)
	}
	return out
}

// TestP17_1RingOfAll has one ring of all sessions; and the same with an edge less.
func TestP17_1RingOfAll(t *testing.T) {
	r := rand.New(rand.NewSource(1701))
	for n := 1; n < 16; n += 2 {
		edges := ring(n)
		for range 5 {
			caughtAre(t, edges, rising(16))
			victimsAre(t, edges, nil, []int{16})
			victimsAre(t, edges, []int{0, 1, 9, 2, 9, 3}, []int{4})
			caughtAre(t, edges[1:], nil)
			victimsAre(t, edges[1:], nil, nil)
			edges = mixed(r, edges)
		}
	}
}

// TestP17_1Victims tells them by births.
func TestP17_1Victims(t *testing.T) {
	const two, three = "1 2, 2 1", "1 2, 2 3, 3 1"
	for _, c := range []struct {
		edges string
		born  []int
		want  string
	}{
		{two, []int{0, 5, 9}, "2"}, {two, []int{0, 9, 5}, "1"}, {three, []int{0, 5, 9, 7}, "2"}, {three, []int{0, 5, 7, 9}, "3"},
		{two, nil, "2"}, {two, []int{7}, "2"}, {two, []int{0, 1}, "1"}, {two, []int{0, 0, 1}, "2"}, {three, []int{0, 0, 1}, "2"}, // lists that are short
		{"15 16, 16 15", make([]int, 15), "16"}, {"15 16, 16 15", append(make([]int, 15), 1), "15"}, {"15 16, 16 15", append(make([]int, 16), 1), "16"}, {"15 16, 16 15", append(make([]int, 15), 2, 1), "15"},
		{two, []int{99, 5, 3}, "1"}, {two, []int{0, 5, 3, 99}, "1"}, {two, append([]int{50, 5, 3}, make([]int, 60)...), "1"}, // numbers that are no such session's
		{"1 16, 16 1", append(make([]int, 17), 9, 9, 9), "16"}, {"1 16, 16 1", append([]int{9, 1}, append(make([]int, 15), 9, 9)...), "1"},
		{two, []int{0, 5, 5}, "2"}, {three, []int{0, 5, 5, 5}, "3"}, {three, []int{0, 5, 5, 4}, "2"}, {three, []int{0, 5, 4, 5}, "3"}, {"7 3, 3 5, 5 7", make([]int, 30), "7"}, // equal ones
		{two, []int{0, -1}, "2"}, {two, []int{0, -1, -2}, "1"}, {three, []int{0, -1, -2}, "3"}, {three, []int{0, -1, 0}, "3"}, {three, []int{0, 0, -1, -1}, "1"}, {three, []int{0, -3, -2, -2}, "3"}, // beside the 0 beyond the end
		{two, []int{0, math.MinInt}, "2"}, {two, []int{0, math.MaxInt}, "1"}, {two, []int{0, math.MinInt, math.MaxInt}, "2"}, {two, []int{0, math.MaxInt, math.MinInt}, "1"}, {two, []int{0, math.MinInt + 1, math.MinInt}, "1"}, {two, []int{0, math.MinInt, math.MinInt}, "2"},
		{"1 2, 2 1, 3 1", []int{0, 5, 9, 99}, "2"}, {"1 2, 2 1, 2 3", []int{0, 9, 5, 99}, "1"}, {"1 2, 2 1, 2 3, 3 4, 4 5, 5 4", []int{0, 2, 1, 99, 4, 3}, "4 1"}, // who aren't caught
		{"1 2, 2 1, 3 4, 4 3", nil, "4 2"}, {"1 2, 2 1, 3 4, 4 3", []int{0, 9, 1, 5, 7}, "1 4"}, {"1 2, 2 1, 3 4, 4 3", []int{0, 1, 7, 9, 8}, "3 2"}, // one of each of two rings
		{"1 2, 2 1, 2 3, 3 2", []int{0, 1, 9, 2}, "2"}, {"1 2, 2 1, 2 3, 3 2", []int{0, 9, 1, 8}, "1 3"}, {"1 2, 2 1, 2 3, 3 2", []int{0, 9, 8, 1}, "1 2"}, {"1 2, 2 1, 2 3, 3 2", nil, "3 2"}, // that share 2
		{"1 1", nil, "1"}, {"1 1, 2 2, 3 3", []int{0, 2, 3, 1}, "2 1 3"}, {"4 4, 4 5, 5 4", []int{0, 0, 0, 0, 1, 2}, "5 4"}, {"4 4, 4 5, 5 4", []int{0, 0, 0, 0, 2, 1}, "4"}, {"16 16, 1 1", nil, "16 1"},
		{"1 2, 2 3, 3 4, 4 1, 1 3, 3 2", []int{0, 4, 3, 2, 1}, "1 2"}, {"1 2, 2 3, 3 4, 4 1, 1 3, 3 2", []int{0, 4, 2, 9, 1}, "3"}, {"1 2, 2 3, 3 4, 4 1, 1 3, 3 2", nil, "4 3"},
		{"1 2, 1 2, 2 1, 2 1, 2 1", []int{0, 5, 9}, "2"}, {"1 2, 2 3", []int{0, 5, 9, 7}, ""}, {"1 2", nil, ""},
	} {
		edges := edgesOf(t, c.edges)
		for range 2 {
			victimsAre(t, edges, c.born, numbers(t, c.want))
			holds(t, edges, c.born)
			slices.Reverse(edges)
		}
	}
}

// whole are all edges between all sessions, those of one to itself, too.
func whole() [][2]int {
	var out [][2]int
	for i := range 256 {
		out = append(out, [2]int{1 + i/16, 1 + i%16})
	}
	return out
}

// TestP17_1All256 has as many edges as there may be: all that there are, and few ones again and again.
func TestP17_1All256(t *testing.T) {
	edges, born := whole(), []int{0, 3, 9, 3, 8, -1}
	caughtAre(t, edges, rising(16))
	victimsAre(t, edges, born, []int{2, 4, 3, 1, 16, 15, 14, 13, 12, 11, 10, 9, 8, 7, 6, 5})
	others := slices.DeleteFunc(slices.Clone(edges), func(e [2]int) bool { return e[0] == e[1] })
	caughtAre(t, others, rising(16))
	victimsAre(t, others, born, []int{2, 4, 3, 1, 16, 15, 14, 13, 12, 11, 10, 9, 8, 7, 6}) // 5 is left
	down := slices.DeleteFunc(slices.Clone(others), func(e [2]int) bool { return e[0] < e[1] })
	caughtAre(t, down, nil)
	victimsAre(t, down, born, nil)
	caughtAre(t, append(down, [2]int{15, 16}), []int{15, 16})
	for _, l := range []string{"1 2", "7 7", "1 2, 2 1"} {
		few := edgesOf(t, l)
		var many [][2]int
		for len(many) < 256 {
			many = append(many, few...)
		}
		caught, _ := holds(t, many, born)
		caughtAre(t, few, caught)
		refused(t, append(many, few[0]), born)
		refused(t, append(slices.Clone(few), many...), born)
	}
}

// TestP17_1TooManyEdges has one more than there may be, and many more.
func TestP17_1TooManyEdges(t *testing.T) {
	r := rand.New(rand.NewSource(1702))
	edges := whole()
	for _, n := range []int{255, 256} {
		for range 20 {
			caught, _ := holds(t, mixed(r, edges)[:n], drawnBorn(r))
			if len(caught) != 16 {
				t.Errorf("of %d edges %v are caught", n, caught)
			}
		}
	}
	for _, n := range []int{257, 258, 300, 512, 513, 65536, 65537, 1 << 20} {
		more := slices.Repeat([][2]int{{3, 5}}, n)
		refused(t, more, nil)
		copy(more, edges)
		refused(t, more, drawnBorn(r))
		refused(t, more, nil, 0, 17)
	}
	refused(t, append(edges, [2]int{0, 0}), nil)
}

// noSessions are numbers that are none.
func noSessions() []int {
	return []int{0, 17, -1, -16, -17, 18, 31, 32, 33, 63, 64, 65, 256, 257, 1<<32 + 1, math.MinInt, math.MinInt + 1, math.MaxInt, math.MaxInt - 1}
}

// TestP17_1NoSessionAtAnEnd has each that is none at either end of an edge, alone, and ahead of others, among them, and
// behind them.
func TestP17_1NoSessionAtAnEnd(t *testing.T) {
	for _, s := range noSessions() {
		for _, bad := range [][2]int{{s, 1}, {1, s}, {s, 16}, {16, s}, {s, s}, {s, 17}, {0, s}} {
			refused(t, [][2]int{bad}, nil)
			for _, l := range []string{"1 2, 2 1", "1 2, 2 3", "5 5, 6 6, 6 5"} {
				edges := edgesOf(t, l)
				for at := range len(edges) + 1 {
					refused(t, slices.Insert(slices.Clone(edges), at, bad), []int{0, 5, 9})
				}
			}
			for _, at := range []int{0, 128, 255} {
				edges := whole()
				edges[at] = bad
				refused(t, edges, nil)
			}
		}
	}
}

// TestP17_1RingOfNoSession asks for its ring, with edges that are right and with wrong ones.
func TestP17_1RingOfNoSession(t *testing.T) {
	for _, s := range noSessions() {
		for _, l := range []string{"", "1 2", "1 2, 2 1", "1 1, 16 16", "0 0", "17 17", "1 2, 2 17"} {
			refused(t, edgesOf(t, l), nil, s)
		}
		refused(t, whole(), nil, s)
		refused(t, [][2]int{{s, s}}, nil, s)
	}
	for _, s := range []int{1, 16} {
		if got, e := wait.Ring([][2]int{{1, 16}, {16, 1}}, s); e != api.OK || !slices.Equal(got, []int{s, 17 - s}) {
			t.Errorf("Ring(%d): %v, %d", s, got, e)
		}
	}
}
