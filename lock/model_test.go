package lock_test

import (
	"fmt"
	"math"
	"math/rand"
	"slices"
	"strconv"
	"strings"
	"testing"

	"rhizome/api"
	"rhizome/lock"
)

// A waiter is one of a thing's queue.
type waiter struct {
	who   int
	alone bool
}

// A thing is an item as the chapter tells it: those that hold it shared, who holds it alone (0: nobody), who waits.
type thing struct {
	shared []int
	alone  int
	queue  []waiter
}

// others are the sessions that hold the thing, but one; with alone just who holds it so.
func (th *thing) others(who int, alone bool) []int {
	var out []int
	if th.alone != 0 && th.alone != who {
		out = append(out, th.alone)
	}
	for _, o := range th.shared {
		if o != who && !alone {
			out = append(out, o)
		}
	}
	return out
}

// bars are the sessions whose holding makes an ask not fit.
func (th *thing) bars(w waiter) []int { return th.others(w.who, !w.alone) }

func (th *thing) isHeldBy(who int) bool { return th.alone == who || slices.Contains(th.shared, who) }

// giveUp takes a session from those that hold the thing, and from its queue; false, if it was in neither.
func (th *thing) giveUp(who int) bool {
	waits := func(w waiter) bool { return w.who == who }
	was := th.isHeldBy(who) || slices.ContainsFunc(th.queue, waits)
	if th.alone == who {
		th.alone = 0
	}
	th.shared = slices.DeleteFunc(th.shared, func(o int) bool { return o == who })
	th.queue = slices.DeleteFunc(th.queue, waits)
	return was
}

// take has a session hold the thing.
func (th *thing) take(w waiter) {
	th.shared = slices.DeleteFunc(th.shared, func(o int) bool { return o == w.who })
	if w.alone {
		th.alone = w.who
	} else {
		th.shared = append(th.shared, w.who)
	}
}

// lineUp puts a waiter in the queue: the queue is those that hold the thing, and behind them those that don't.
func (th *thing) lineUp(w waiter) {
	var hold, rest []waiter
	for _, o := range append(th.queue, w) {
		if th.isHeldBy(o.who) {
			hold = append(hold, o)
		} else {
			rest = append(rest, o)
		}
	}
	th.queue = append(hold, rest...)
}

// A kept is a table with what it is to be: its calls are held to the chapter's words.
type kept struct {
	table  *lock.Table
	things map[int]*thing
	calls  []string
}

func made() *kept { return &kept{table: lock.New(), things: map[int]*thing{}} }

func (k *kept) told() string { return strings.Join(k.calls, " ") }

// thing is an item's; one that was never asked for is as one that nobody has.
func (k *kept) thing(item int) *thing {
	if th, ok := k.things[item]; ok {
		return th
	}
	return &thing{}
}

// items are those that were ever asked for, rising.
func (k *kept) items() []int {
	var out []int
	for item := range k.things {
		out = append(out, item)
	}
	slices.Sort(out)
	return out
}

// waits is the item that a session waits for, and its queue up to the session; none, if it doesn't wait.
func (k *kept) waits(s int) (item int, queue []waiter) {
	for item, th := range k.things {
		if at := slices.IndexFunc(th.queue, func(w waiter) bool { return w.who == s }); at >= 0 {
			return item, th.queue[:at+1]
		}
	}
	return 0, nil
}

// wantAsk does an ask in the model.
func (k *kept) wantAsk(s, item int, alone bool) api.Errno {
	_, queue := k.waits(s)
	switch {
	case s < 1, s > 16:
		return api.ErrRange
	case queue != nil:
		return api.ErrState
	}
	if k.things[item] == nil {
		k.things[item] = &thing{}
	}
	th, w := k.things[item], waiter{s, alone}
	switch {
	case th.alone == s, !alone && slices.Contains(th.shared, s):
		return api.OK
	case len(th.bars(w)) > 0, len(th.queue) > 0 && !th.isHeldBy(s):
		th.lineUp(w)
		return api.ErrWait
	}
	th.take(w)
	return api.OK
}

// wantRelease does a release in the model.
func (k *kept) wantRelease(s int) ([]int, api.Errno) {
	if s < 1 || s > 16 {
		return nil, api.ErrRange
	}
	var out []int
	for _, item := range k.items() {
		th := k.things[item]
		if !th.giveUp(s) {
			continue
		}
		for len(th.queue) > 0 && len(th.bars(th.queue[0])) == 0 {
			out = append(out, th.queue[0].who)
			th.take(th.queue[0])
			th.queue = th.queue[1:]
		}
	}
	return out, api.OK
}

// wantBlockers are a session's.
func (k *kept) wantBlockers(s int) []int {
	item, queue := k.waits(s)
	if queue == nil {
		return nil
	}
	out := k.things[item].bars(queue[len(queue)-1])
	for _, w := range queue[:len(queue)-1] {
		out = append(out, w.who)
	}
	slices.Sort(out)
	return slices.Compact(out)
}

// wantEdges are those of all sessions.
func (k *kept) wantEdges() [][2]int {
	var out [][2]int
	for s := 1; s <= 16; s++ {
		for _, o := range k.wantBlockers(s) {
			out = append(out, [2]int{s, o})
		}
	}
	return out
}

// sessions are all that there are, and some that are none.
func sessions() []int {
	return []int{math.MinInt, -16, -1, 0, 1, 2, 3, 4, 5, 6, 7, 8, 9, 10, 11, 12, 13, 14, 15, 16, 17, 18, 32, 257, math.MaxInt}
}

// holds holds all that the table tells to the model.
func (k *kept) holds(t *testing.T) {
	t.Helper()
	items := append(k.items(), 777, -777)
	for _, s := range sessions() {
		for _, item := range items {
			th := k.thing(item)
			want, alone := s != 0 && th.isHeldBy(s), s != 0 && th.alone == s
			if a, b := k.table.Holds(s, item); a != want || b != alone {
				t.Fatalf("%s: Holds(%d, %d): %v, %v, want %v, %v", k.told(), s, item, a, b, want, alone)
			}
		}
		item, queue := k.waits(s)
		alone := queue != nil && queue[len(queue)-1].alone
		if a, b, c := k.table.Waits(s); a != item || b != alone || c != (queue != nil) {
			t.Fatalf("%s: Waits(%d): %d, %v, %v, want %d, %v, %v", k.told(), s, a, b, c, item, alone, queue != nil)
		}
		if got, want := k.table.Blockers(s), k.wantBlockers(s); !slices.Equal(got, want) {
			t.Fatalf("%s: Blockers(%d): %v, want %v", k.told(), s, got, want)
		}
	}
	if got, want := k.table.Edges(), k.wantEdges(); !slices.Equal(got, want) {
		t.Fatalf("%s: Edges: %v, want %v", k.told(), got, want)
	}
}

// ask calls Ask, and holds its answer to the model.
func (k *kept) ask(t *testing.T, s, item int, alone bool) api.Errno {
	t.Helper()
	k.calls = append(k.calls, asking(s, item, alone))
	want := k.wantAsk(s, item, alone)
	if got := k.table.Ask(s, item, alone); got != want {
		t.Fatalf("%s: %d, want %d", k.told(), got, want)
	}
	return want
}

// release calls Release, and holds its answer to the model.
func (k *kept) release(t *testing.T, s int) []int {
	t.Helper()
	k.calls = append(k.calls, fmt.Sprint(s, "-"))
	want, e := k.wantRelease(s)
	if got, f := k.table.Release(s); !slices.Equal(got, want) || e != f {
		t.Fatalf("%s: %v, %d, want %v, %d", k.told(), got, f, want, e)
	}
	return want
}

// asking is an ask as script takes it.
func asking(s, item int, alone bool) string {
	if alone {
		return fmt.Sprintf("%da%d", s, item)
	}
	return fmt.Sprintf("%ds%d", s, item)
}

func number(t *testing.T, s string) int {
	t.Helper()
	n, err := strconv.Atoi(s)
	if err != nil {
		t.Fatal(err)
	}
	return n
}

// script does calls, a word each, with what the chapter has them answer: 1s5 (1 asks 5 shared) and 1a5 (alone), with
// :wait, :state or :range, if it isn't OK; 2- (a Release), with the sessions that were granted (2-:1,3), or :range.
// Behind each call all that the table tells is held to the model.
func (k *kept) script(t *testing.T, calls string) {
	t.Helper()
	for _, call := range strings.Fields(calls) {
		what, want, _ := strings.Cut(call, ":")
		got := ""
		if who, ok := strings.CutSuffix(what, "-"); ok {
			got = k.tellRelease(t, number(t, who))
		} else {
			at := strings.IndexAny(what, "sa")
			got = errorName(k.ask(t, number(t, what[:at]), number(t, what[at+1:]), what[at] == 'a'))
		}
		if got != want {
			t.Fatalf("%s: %s, want %s", k.told(), got, want)
		}
		k.holds(t)
	}
}

// tellRelease calls Release, and tells its answer as script does.
func (k *kept) tellRelease(t *testing.T, s int) string {
	t.Helper()
	granted := k.release(t, s)
	if s < 1 || s > 16 {
		return "range"
	}
	return strings.ReplaceAll(strings.Trim(fmt.Sprint(granted), "[]"), " ", ",")
}

func errorName(e api.Errno) string {
	switch e {
	case api.OK:
		return ""
	case api.ErrWait:
		return "wait"
	case api.ErrState:
		return "state"
	case api.ErrRange:
		return "range"
	}
	return fmt.Sprint(e)
}

// edges holds Edges to what is told here: 1 2 3 for those from 1 to 2 and to 3, parted by commas.
func (k *kept) edges(t *testing.T, want string) {
	t.Helper()
	var all [][2]int
	for _, row := range strings.Split(want, ",") {
		l := strings.Fields(row)
		var others []int
		for _, o := range l[min(len(l), 1):] {
			others = append(others, number(t, o))
			all = append(all, [2]int{number(t, l[0]), number(t, o)})
		}
		if len(l) > 0 && !slices.Equal(k.table.Blockers(number(t, l[0])), others) {
			t.Fatalf("%s: Blockers(%s): %v, want %v", k.told(), l[0], k.table.Blockers(number(t, l[0])), others)
		}
	}
	if got := k.table.Edges(); !slices.Equal(got, all) {
		t.Fatalf("%s: Edges: %v, want %v", k.told(), got, all)
	}
}

// has holds Holds and Waits of each session to what is told here for an item: who holds it, rising, with an A behind who
// does so alone; and who waits for it, likewise.
func (k *kept) has(t *testing.T, item int, hold, wait string) {
	t.Helper()
	var holding, waiting []string
	for s := range 20 {
		if is, alone := k.table.Holds(s, item); is {
			holding = append(holding, fmt.Sprint(s)+strings.Repeat("A", count(alone)))
		} else if alone {
			t.Fatalf("%s: Holds(%d, %d): false, true", k.told(), s, item)
		}
		if on, alone, is := k.table.Waits(s); is && on == item {
			waiting = append(waiting, fmt.Sprint(s)+strings.Repeat("A", count(alone)))
		} else if !is && (on != 0 || alone) {
			t.Fatalf("%s: Waits(%d): %d, %v, false", k.told(), s, on, alone)
		}
	}
	if got := strings.Join(holding, " "); got != hold {
		t.Fatalf("%s: %d is held by %s, want %s", k.told(), item, got, hold)
	}
	if got := strings.Join(waiting, " "); got != wait {
		t.Fatalf("%s: for %d there wait %s, want %s", k.told(), item, got, wait)
	}
}

func count(b bool) int {
	if b {
		return 1
	}
	return 0
}

// A hand draws calls: of so many sessions and items; one ask of so many is alone, one call of so many a Release.
type hand struct {
	*rand.Rand
	sess, items, alone, release int
}

func handOf(r *rand.Rand) hand {
	return hand{r, 2 + r.Intn(15), 1 + r.Intn(5), 2 + r.Intn(6), 3 + r.Intn(10)}
}

// draw does a call that is drawn; now and then of a session that is none.
func (k *kept) draw(t *testing.T, h hand) {
	t.Helper()
	s := 1 + h.Intn(h.sess)
	if h.Intn(40) == 0 {
		s = sessions()[h.Intn(len(sessions()))]
	}
	if h.Intn(h.release) == 0 {
		k.release(t, s)
	} else {
		k.ask(t, s, h.Intn(h.items)-h.items/2, h.Intn(h.alone) == 0)
	}
}
