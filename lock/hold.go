package lock

import (
	"maps"
	"slices"

	"rhizome/api"
)

// A grip is how a session holds an item.
type grip struct{ alone bool }

// hold has a session hold what it asks for; what it held shared it may hold alone then.
func (t *Table) hold(a ask) {
	if _, ok := t.held[a.session]; !ok {
		t.held[a.session] = map[int]grip{}
	}
	t.held[a.session][a.item] = grip{a.alone}
}

// isFit tells whether nobody else holds the item in the ask's way.
func (t *Table) isFit(a ask) bool {
	for o := 1; o <= api.MaxSess; o++ {
		if t.bars(o, a) {
			return false
		}
	}
	return true
}

// bars tells whether what a session holds makes an ask not fit: its own never does.
func (t *Table) bars(o int, a ask) bool {
	holds, alone := t.Holds(o, a.item)
	return o != a.session && holds && (alone || a.alone)
}

// itemsOf are the items that a session holds or waits for, rising.
func (t *Table) itemsOf(s int) []int {
	items := slices.Collect(maps.Keys(t.held[s]))
	if item, _, ok := t.Waits(s); ok {
		items = append(items, item)
	}
	slices.Sort(items)
	return slices.Compact(items)
}
