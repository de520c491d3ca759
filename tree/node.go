package tree

import "bytes"

// node is a pair, with lesser keys on its left and greater ones on its right; a nil one is a side without
// pairs. The depths of the two sides differ by 1 at most: so a tree that is deeper by 1 has at least half
// as many pairs more, and no depth is above one and a half times the binary digits of how many there are.
type node struct {
	Pair
	left, right *node
	size        int // how many pairs, with its own
	depth       int
}

// pairOf copies what was handed in, or what is handed out.
func pairOf(key, value []byte) Pair {
	return Pair{Key: bytes.Clone(key), Value: bytes.Clone(value)}
}

func (n *node) pairs() int {
	if n == nil {
		return 0
	}
	return n.size
}

func (n *node) height() int {
	if n == nil {
		return 0
	}
	return n.depth
}

// with answers the root of n's pairs, in which the key has the value.
func (n *node) with(key, value []byte) *node {
	if n == nil {
		return &node{Pair: pairOf(key, value), size: 1, depth: 1}
	}
	switch c := bytes.Compare(key, n.Key); {
	case c < 0:
		n.left = n.left.with(key, value)
	case c > 0:
		n.right = n.right.with(key, value)
	default:
		n.Value = bytes.Clone(value)
	}
	return n.balanced()
}

// without answers the root of n's pairs but the key's.
func (n *node) without(key []byte) *node {
	if n == nil {
		return nil
	}
	switch c := bytes.Compare(key, n.Key); {
	case c < 0:
		n.left = n.left.without(key)
	case c > 0:
		n.right = n.right.without(key)
	default:
		return n.sides()
	}
	return n.balanced()
}

// sides answers the root of n's pairs but its own: the next greater one takes its place.
func (n *node) sides() *node {
	if n.right == nil {
		return n.left
	}
	least, others := n.right.apart()
	least.left, least.right = n.left, others
	return least.balanced()
}

// apart takes the node of the least key off n's, and answers it and the others' root.
func (n *node) apart() (least, others *node) {
	if n.left == nil {
		return n, n.right
	}
	least, n.left = n.left.apart()
	return least, n.balanced()
}

// balanced answers the root of n's pairs, once one of its sides has a pair more or less.
func (n *node) balanced() *node {
	switch lean := n.right.height() - n.left.height(); {
	case lean < -1:
		if n.left.left.height() < n.left.right.height() {
			n.left = n.left.rightUp()
		}
		return n.leftUp()
	case lean > 1:
		if n.right.right.height() < n.right.left.height() {
			n.right = n.right.leftUp()
		}
		return n.rightUp()
	}
	n.measure()
	return n
}

// leftUp answers n's left one as the root, with n on its right.
func (n *node) leftUp() *node {
	up := n.left
	n.left, up.right = up.right, n
	n.measure()
	up.measure()
	return up
}

// rightUp answers n's right one as the root, with n on its left.
func (n *node) rightUp() *node {
	up := n.right
	n.right, up.left = up.left, n
	n.measure()
	up.measure()
	return up
}

// measure counts anew, from its sides.
func (n *node) measure() {
	n.size = n.left.pairs() + 1 + n.right.pairs()
	n.depth = max(n.left.height(), n.right.height()) + 1
}

// between answers l, and behind it copies of n's pairs from one place on up to another one.
func (n *node) between(from, to int, l []Pair) []Pair {
	if n == nil || from >= n.size || to <= 0 {
		return l
	}
	own := n.left.pairs()
	l = n.left.between(from, to, l)
	if from <= own && own < to {
		l = append(l, pairOf(n.Key, n.Value))
	}
	return n.right.between(from-own-1, to-own-1, l)
}

// clone answers n's pairs on nodes of their own.
func (n *node) clone() *node {
	if n == nil {
		return nil
	}
	return &node{Pair: pairOf(n.Key, n.Value), left: n.left.clone(), right: n.right.clone(), size: n.size, depth: n.depth}
}
