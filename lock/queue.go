package lock

import "slices"

// An ask is for an item, shared or alone.
type ask struct {
	session, item int
	alone         bool
}

// place is where a session waits; -1, if it doesn't.
func (t *Table) place(s int) int {
	return slices.IndexFunc(t.queue, func(a ask) bool { return a.session == s })
}

// first is where the first one waits for an item; -1, if nobody does.
func (t *Table) first(item int) int {
	return slices.IndexFunc(t.queue, func(a ask) bool { return a.item == item })
}

// isAhead tells whether a session waits ahead of the one at a place, for the same item.
func (t *Table) isAhead(o, at int) bool {
	item := t.queue[at].item
	return slices.ContainsFunc(t.queue[:at], func(a ask) bool { return a.session == o && a.item == item })
}

// lineUp has an ask wait: behind all, but, if its session holds the item already, ahead of those that don't, or it would
// wait for one that waits for it.
func (t *Table) lineUp(a ask) {
	at := -1
	if holds, _ := t.Holds(a.session, a.item); holds {
		at = t.firstWithout(a.item)
	}
	if at < 0 {
		at = len(t.queue)
	}
	t.queue = slices.Insert(t.queue, at, a)
}

// firstWithout is where the first one waits for an item of those that don't hold it; -1, if there is none.
func (t *Table) firstWithout(item int) int {
	return slices.IndexFunc(t.queue, func(a ask) bool {
		holds, _ := t.Holds(a.session, item)
		return a.item == item && !holds
	})
}

// grants has those that wait for an item hold it, as long as the first one is fit, and tells who they are.
func (t *Table) grants(item int) []int {
	var out []int
	for {
		at := t.first(item)
		if at < 0 || !t.isFit(t.queue[at]) {
			return out
		}
		a := t.queue[at]
		t.queue = slices.Delete(t.queue, at, at+1)
		t.hold(a)
		out = append(out, a.session)
	}
}
