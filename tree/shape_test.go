package tree

import (
	"bytes"
	"math/rand"
	"slices"
	"testing"
)

// shape checks the pairs below a node: their order, and what the node says of them. It answers how many
// there are, and how many nodes stand on the longest way down, both counted anew.
func shape(t *testing.T, n *node, above, below *node) (pairs, depth int) {
	if n == nil {
		return 0, 0
	}
	if above != nil && bytes.Compare(n.Key, above.Key) <= 0 || below != nil && bytes.Compare(n.Key, below.Key) >= 0 {
		t.Fatalf("the key % x is on a wrong side", n.Key)
	}
	leftPairs, leftDepth := shape(t, n.left, above, n)
	rightPairs, rightDepth := shape(t, n.right, n, below)
	pairs, depth = leftPairs+1+rightPairs, max(leftDepth, rightDepth)+1
	if n.size != pairs || n.depth != depth {
		t.Fatalf("the node of % x says %d pairs, depth %d; it has %d, %d", n.Key, n.size, n.depth, pairs, depth)
	}
	if leftDepth-rightDepth > 1 || rightDepth-leftDepth > 1 {
		t.Fatalf("the sides of % x have the depths %d and %d", n.Key, leftDepth, rightDepth)
	}
	return pairs, depth
}

// isWhole checks that Len and Depth are what the nodes have.
func isWhole(t *testing.T, r *Tree) {
	t.Helper()
	if pairs, depth := shape(t, r.root, nil, nil); r.Len() != pairs || r.Depth() != depth {
		t.Fatalf("Len %d, Depth %d; its nodes have %d, %d", r.Len(), r.Depth(), pairs, depth)
	}
}

// orders calls f with each order of the numbers below n.
func orders(n int, f func([]int)) {
	l := make([]int, n)
	for i := range l {
		l[i] = i
	}
	var from func(k int)
	from = func(k int) {
		if k == n {
			f(slices.Clone(l))
			return
		}
		for i := k; i < n; i++ {
			l[k], l[i] = l[i], l[k]
			from(k + 1)
			l[k], l[i] = l[i], l[k]
		}
	}
	from(0)
}

func key(i int) []byte { return []byte{byte(i)} }

func grown(t *testing.T, order []int) *Tree {
	t.Helper()
	r := New()
	for _, i := range order {
		r.Put(key(i), key(i))
		isWhole(t, r)
	}
	return r
}

// What Depth answers is the way that is there: each order in which few keys come, each in which they go.
func TestP6_2DepthIsTheLongestWay(t *testing.T) {
	isWhole(t, New())
	orders(5, func(come []int) {
		orders(5, func(gone []int) {
			r := grown(t, come)
			for _, i := range gone {
				r.Delete(key(i))
				isWhole(t, r)
			}
		})
	})
	orders(7, func(come []int) { grown(t, come) })
}

// Of a tree of many, each pair goes from a clone; and then the one that took its place.
func TestP6_2DepthBehindEachDelete(t *testing.T) {
	for n := 1; n <= 45; n++ {
		rising := New()
		for i := range n {
			rising.Put(key(i), nil)
		}
		for i := range n {
			r := rising.Clone()
			isWhole(t, r)
			for k := range n {
				r.Delete(key((i + k) % n))
				isWhole(t, r)
			}
		}
		isWhole(t, rising)
	}
}

// Keys come and go in any order, so that a side that is too deep has sides of every kind.
func TestP6_2DepthBehindAnyCall(t *testing.T) {
	for seed := range int64(40) {
		rnd, r, most := rand.New(rand.NewSource(seed)), New(), 10+int(seed)*5
		for range 400 {
			if k := key(rnd.Intn(most)); !r.Delete(k) {
				r.Put(k, k)
			}
			isWhole(t, r)
		}
	}
}

// nodesOf adds the nodes of a tree to those of others.
func nodesOf(t *testing.T, r *Tree, l []*node) []*node {
	t.Helper()
	var walk func(n *node)
	walk = func(n *node) {
		if n == nil {
			return
		}
		if slices.Contains(l, n) {
			t.Fatalf("two trees have the node of % x", n.Key)
		}
		l = append(l, n)
		walk(n.left)
		walk(n.right)
	}
	walk(r.root)
	return l
}

// Neither a node nor a byte is two trees'.
func TestP6_4ACloneHasItsOwnMemory(t *testing.T) {
	r := New()
	for i := range 40 {
		r.Put(key(i), key(i))
	}
	c := r.Clone()
	var l []*node
	for _, one := range []*Tree{r, c, c.Clone(), r.Clone()} {
		l = nodesOf(t, one, l)
	}
	if len(l) != 4*40 {
		t.Fatalf("%d nodes", len(l))
	}
	seen := map[*byte]bool{}
	for _, n := range l {
		for _, b := range [][]byte{n.Key, n.Value} {
			if seen[&b[0]] {
				t.Fatalf("% x stands in one memory twice", b)
			}
			seen[&b[0]] = true
		}
	}
}
