package tree_test

import (
	"bytes"
	"math"
	"math/bits"
	"math/rand"
	"slices"
	"strings"
	"testing"

	"rhizome/api"
	"rhizome/tree"
)

// told is a tree as the chapter's words have it: its pairs, in order.
type told struct {
	keys, values []string
}

func (m *told) rank(key string) int {
	n, _ := slices.BinarySearch(m.keys, key)
	return n
}

func (m *told) has(key string) bool {
	_, there := slices.BinarySearch(m.keys, key)
	return there
}

func (m *told) put(key, value string) bool {
	i := m.rank(key)
	if m.has(key) {
		m.values[i] = value
		return false
	}
	m.keys, m.values = slices.Insert(m.keys, i, key), slices.Insert(m.values, i, value)
	return true
}

func (m *told) get(key string) (string, bool) {
	if !m.has(key) {
		return "", false
	}
	return m.values[m.rank(key)], true
}

func (m *told) delete(key string) bool {
	i := m.rank(key)
	if !m.has(key) {
		return false
	}
	m.keys, m.values = slices.Delete(m.keys, i, i+1), slices.Delete(m.values, i, i+1)
	return true
}

func (m *told) between(from, to string, most int) *told {
	in := &told{}
	for i, k := range m.keys {
		if k >= from && (to == "" || k < to) && len(in.keys) < most {
			in.keys, in.values = append(in.keys, k), append(in.values, m.values[i])
		}
	}
	return in
}

func (m *told) clone() *told { return &told{slices.Clone(m.keys), slices.Clone(m.values)} }

// isDeepEnough checks the depth of so many pairs.
func isDeepEnough(t *testing.T, r *tree.Tree, pairs int) {
	t.Helper()
	if d := r.Depth(); d < 0 || d > 2*bits.Len(uint(pairs)) || (d == 0) != (pairs == 0) {
		t.Fatalf("Depth of %d pairs: %d", pairs, d)
	}
}

// are checks a list of pairs.
func are(t *testing.T, what string, got []tree.Pair, want *told) {
	t.Helper()
	if len(got) != len(want.keys) {
		t.Fatalf("%s: %d pairs; want %d", what, len(got), len(want.keys))
	}
	for i, p := range got {
		if string(p.Key) != want.keys[i] || string(p.Value) != want.values[i] {
			t.Fatalf("%s: pair %d: %q, %q; want %q, %q", what, i, p.Key, p.Value, want.keys[i], want.values[i])
		}
	}
}

// is checks what all calls tell of a tree, and of the keys asked besides.
func is(t *testing.T, r *tree.Tree, m *told, asked ...string) {
	t.Helper()
	if n := r.Len(); n != len(m.keys) {
		t.Fatalf("Len: %d; want %d", n, len(m.keys))
	}
	isDeepEnough(t, r, len(m.keys))
	are(t, "Range of all", r.Range(nil, nil, math.MaxInt), m)
	for i, k := range m.keys {
		if p, e := r.At(i); e != api.OK || string(p.Key) != k || string(p.Value) != m.values[i] {
			t.Fatalf("At(%d): %q, %q, %d; want %q, %q", i, p.Key, p.Value, e, k, m.values[i])
		}
	}
	for _, i := range []int{-1, len(m.keys)} {
		if p, e := r.At(i); e != api.ErrRange || p.Key != nil || p.Value != nil {
			t.Fatalf("At(%d): %v, %d; want ErrRange", i, p, e)
		}
	}
	for _, k := range append(slices.Clone(m.keys), asked...) {
		want, there := m.get(k)
		if v, ok := r.Get([]byte(k)); ok != there || string(v) != want || !ok && v != nil {
			t.Fatalf("Get(%q): %q, %v; want %q, %v", k, v, ok, want, there)
		}
		if n := r.Rank([]byte(k)); n != m.rank(k) {
			t.Fatalf("Rank(%q): %d; want %d", k, n, m.rank(k))
		}
	}
}

// both is a tree, and what it has to be.
type both struct {
	*testing.T
	r *tree.Tree
	m *told
}

func newBoth(t *testing.T) *both {
	t.Helper()
	r := tree.New()
	if r == nil {
		t.Fatal("New: nil")
	}
	return &both{t, r, &told{}}
}

func (b *both) put(key, value string) {
	b.Helper()
	want := b.m.put(key, value)
	if got := b.r.Put([]byte(key), []byte(value)); got != want {
		b.Fatalf("Put(%q): %v; want %v", key, got, want)
	}
	isDeepEnough(b.T, b.r, len(b.m.keys))
}

func (b *both) delete(key string) {
	b.Helper()
	want := b.m.delete(key)
	if got := b.r.Delete([]byte(key)); got != want {
		b.Fatalf("Delete(%q): %v; want %v", key, got, want)
	}
	isDeepEnough(b.T, b.r, len(b.m.keys))
}

func (b *both) is(asked ...string) {
	b.Helper()
	is(b.T, b.r, b.m, asked...)
}

func (b *both) clone() *both { return &both{b.T, b.r.Clone(), b.m.clone()} }

// of is a tree with these keys, each with a value of its own.
func of(t *testing.T, keys ...string) *both {
	t.Helper()
	b := newBoth(t)
	for _, k := range keys {
		b.put(k, valueOf(k))
	}
	return b
}

func valueOf(k string) string { return "of " + k }

// few is keys, rising, with all that bytes may be: none, one that begins with another, 0 and 255.
var few = []string{"", "\x00", "\x00\x00", "\x00\xff", "\x01", "a", "a\x00", "a\x00\x00", "a\x01", "aa", "aab", "ab", "b", "b\xff", "b\xff\xff", "c", "\x7f", "\x80", "\xfe\xff", "\xff", "\xff\x00", "\xff\xfe", "\xff\xff", "\xff\xff\x00"}

// number is a key of two bytes.
func number(i int) string { return string([]byte{byte(i >> 8), byte(i)}) }

// numbers is n keys, rising.
func numbers(n int) []string {
	l := make([]string, n)
	for i := range l {
		l[i] = number(i)
	}
	return l
}

func shuffled(l []string, seed int64) []string {
	l = slices.Clone(l)
	rand.New(rand.NewSource(seed)).Shuffle(len(l), func(i, k int) { l[i], l[k] = l[k], l[i] })
	return l
}

// byTurns is a list from both ends by turns.
func byTurns(l []string) []string {
	var turns []string
	for i := range l {
		if i%2 == 0 {
			turns = append(turns, l[i/2])
		} else {
			turns = append(turns, l[len(l)-1-i/2])
		}
	}
	return turns
}

func backwards(l []string) []string {
	l = slices.Clone(l)
	slices.Reverse(l)
	return l
}

// orders is rising keys in orders that they may come and go in.
func orders(l []string) map[string][]string {
	half := len(l) / 2
	return map[string][]string{
		"rising":            l,
		"falling":           backwards(l),
		"from both ends":    byTurns(l),
		"from the middle":   backwards(byTurns(l)),
		"the greater half":  append(slices.Clone(l[half:]), l[:half]...),
		"halves, backwards": append(backwards(l[:half]), backwards(l[half:])...),
		"any order":         shuffled(l, 1),
		"another order":     shuffled(l, 2),
	}
}

func TestP6_1Example(t *testing.T) {
	r := tree.New()
	if !r.Put([]byte("b"), []byte("1")) || !r.Put([]byte("a"), []byte("2")) || r.Put([]byte("b"), []byte("3")) {
		t.Error("Put: want true, true, false")
	}
	are(t, "Range", r.Range([]byte(""), []byte(""), 9), &told{[]string{"a", "b"}, []string{"2", "3"}})
	if n := r.Rank([]byte("b")); n != 1 {
		t.Errorf("Rank: %d", n)
	}
	if d := r.Depth(); d < 1 || d > 4 {
		t.Errorf("Depth of two pairs: %d", d)
	}
}

// isEmpty asks each call of an empty tree.
func isEmpty(t *testing.T, r *tree.Tree) {
	t.Helper()
	if r.Len() != 0 || r.Depth() != 0 {
		t.Errorf("an empty tree: Len %d, Depth %d", r.Len(), r.Depth())
	}
	for _, k := range [][]byte{nil, {}, {0}, {255}, []byte("a")} {
		if v, ok := r.Get(k); v != nil || ok {
			t.Errorf("Get(%q): %q, %v", k, v, ok)
		}
		if r.Delete(k) {
			t.Errorf("Delete(%q): true", k)
		}
		if n := r.Rank(k); n != 0 {
			t.Errorf("Rank(%q): %d", k, n)
		}
		for _, to := range [][]byte{nil, {}, {0}, {255, 255}} {
			for _, most := range []int{math.MinInt, -1, 0, 1, math.MaxInt} {
				if l := r.Range(k, to, most); len(l) != 0 {
					t.Errorf("Range(%q, %q, %d): %v", k, to, most, l)
				}
			}
		}
	}
	for _, i := range []int{math.MinInt, -1, 0, 1, math.MaxInt} {
		if p, e := r.At(i); p.Key != nil || p.Value != nil || e != api.ErrRange {
			t.Errorf("At(%d): %v, %d", i, p, e)
		}
	}
	is(t, r, &told{})
}

func TestP6_1Empty(t *testing.T) {
	r := tree.New()
	isEmpty(t, r)
	c := r.Clone()
	isEmpty(t, c)
	isEmpty(t, c.Clone())
	if !c.Put(nil, nil) || r.Len() != 0 || c.Len() != 1 {
		t.Error("a clone of an empty tree doesn't go its own way")
	}
	isEmpty(t, r)
}

func TestP6_1EmptyAgain(t *testing.T) {
	for _, n := range []int{1, 2, 3, 7, 100} {
		b := of(t, numbers(n)...)
		for _, k := range shuffled(numbers(n), int64(n)) {
			b.delete(k)
		}
		isEmpty(t, b.r)
		isEmpty(t, b.r.Clone())
		b.put("again", "1")
		b.is()
	}
}

func TestP6_1OneIsNew(t *testing.T) {
	if a, b := tree.New(), tree.New(); !a.Put([]byte("a"), nil) || b.Len() != 0 || a.Len() != 1 {
		t.Error("two new trees aren't two")
	}
}

func TestP6_1PutOfAKeyThatIsThere(t *testing.T) {
	b := of(t, few...)
	for i, k := range few {
		for _, v := range []string{valueOf(k), "", "a longer value than all that were there", "\x00", "", strings.Repeat("v", i)} {
			depth := b.r.Depth()
			b.put(k, v)
			if b.r.Depth() != depth {
				t.Errorf("Put of a key that is there: the depth is %d, and was %d", b.r.Depth(), depth)
			}
			b.is()
		}
	}
}

func TestP6_1NoBytes(t *testing.T) {
	none := [][]byte{nil, {}, make([]byte, 0, 9)}
	for _, key := range none {
		for _, value := range none {
			for _, asked := range none {
				r := of(t, "b", "\x00").r
				if !r.Put(key, value) || r.Put(asked, value) || r.Len() != 3 {
					t.Error("Put of a key of no bytes")
				}
				if v, ok := r.Get(asked); len(v) != 0 || !ok {
					t.Errorf("Get of no bytes: %q, %v", v, ok)
				}
				if n := r.Rank(asked); n != 0 {
					t.Errorf("Rank of no bytes: %d", n)
				}
				if p, e := r.At(0); len(p.Key) != 0 || len(p.Value) != 0 || e != api.OK {
					t.Errorf("At(0): %v, %d", p, e)
				}
				if l := r.Range(asked, key, 1); len(l) != 1 || len(l[0].Key) != 0 || len(l[0].Value) != 0 {
					t.Errorf("Range from no bytes: %v", l)
				}
				if l := r.Range(asked, []byte{0}, 9); len(l) != 1 || len(l[0].Key) != 0 {
					t.Errorf("Range up to a byte 0: %v", l)
				}
				if !r.Delete(asked) || r.Delete(key) || r.Len() != 2 {
					t.Error("Delete of a key of no bytes")
				}
			}
		}
	}
	b := of(t, few...)
	for _, k := range few {
		b.put(k, "")
	}
	b.is("d", "aabb")
}

func TestP6_1InOrder(t *testing.T) {
	if !slices.IsSorted(few) {
		t.Fatal("few doesn't rise")
	}
	for name, come := range orders(few) {
		b := newBoth(t)
		for _, k := range come {
			b.put(k, valueOf(k))
			b.is(few...)
		}
		if b.r.Len() != len(few) {
			t.Errorf("%s: Len: %d", name, b.r.Len())
		}
		for _, gone := range orders(few) {
			c := b.clone()
			for _, k := range gone {
				c.delete(k)
				c.is(few...)
			}
		}
	}
}

func TestP6_1DeleteOfOneThatIsNot(t *testing.T) {
	var there, not []string
	for i, k := range few {
		if i%2 == 0 {
			there = append(there, k)
		} else {
			not = append(not, k)
		}
	}
	b := of(t, there...)
	for _, k := range append(not, "d", "aaa", strings.Repeat("\xff", 9), strings.Repeat("\x00", 9)) {
		depth := b.r.Depth()
		b.delete(k)
		if b.r.Depth() != depth {
			t.Errorf("Delete of none: the depth is %d, and was %d", b.r.Depth(), depth)
		}
		b.is(not...)
	}
	for _, k := range there {
		b.delete(k)
		b.delete(k)
		b.is(there...)
	}
	for _, k := range there {
		b.delete(k)
		b.put(k, "back")
		b.is(there...)
	}
}

// Every key of trees of up to 40 goes, and comes back with another value.
func TestP6_1DeleteAndBack(t *testing.T) {
	for n := 1; n <= 40; n++ {
		whole := of(t, shuffled(numbers(n), int64(n))...)
		for _, k := range numbers(n) {
			b := whole.clone()
			b.delete(k)
			b.is(k)
			b.put(k, "back")
			b.is()
		}
		whole.is()
	}
}

func TestP6_1LongOnes(t *testing.T) {
	long := strings.Repeat("long ", 5000)
	b := of(t, long, long+"a", long[1:], long[:len(long)-1], long+"\x00")
	b.put(long, long)
	b.put("short", long)
	b.is(long+"b", "l")
	b.delete(long)
	b.is(long)
}

// between are keys ahead of few's, between any two of them, and behind them all; and few themselves.
func between(keys []string) []string {
	asked := slices.Clone(keys)
	for _, k := range keys {
		asked = append(asked, k+"\x00", k+"\x7f", k+"\xff")
	}
	asked = append(asked, "", "\xff\xff\xff\xff")
	slices.Sort(asked)
	return slices.Compact(asked)
}

func TestP6_1Range(t *testing.T) {
	for _, keys := range [][]string{few, few[1:], few[5:12], {"b"}, {""}, {"a", "c"}} {
		b := of(t, shuffled(keys, 3)...)
		for _, from := range between(keys) {
			for _, to := range between(keys) {
				n := len(b.m.between(from, to, math.MaxInt).keys)
				for _, most := range []int{math.MinInt, -n, -1, 0, 1, 2, n - 1, n, n + 1, len(keys), math.MaxInt32, math.MaxInt - 1, math.MaxInt} {
					are(t, "Range", b.r.Range([]byte(from), []byte(to), most), b.m.between(from, to, most))
				}
			}
		}
		b.is(between(keys)...)
	}
}

func TestP6_1RangeEdges(t *testing.T) {
	r := of(t, "a", "b", "c", "d").r
	for _, c := range []struct {
		from, to []byte
		most     int
		want     string
	}{
		{nil, nil, 4, "abcd"},
		{nil, nil, 5, "abcd"},
		{nil, nil, 3, "abc"},
		{nil, nil, 1, "a"},
		{nil, nil, 0, ""},
		{nil, nil, -1, ""},
		{nil, nil, math.MinInt, ""},
		{nil, nil, math.MaxInt, "abcd"},
		{[]byte("b"), nil, math.MaxInt, "bcd"},
		{[]byte("b"), []byte{}, 2, "bc"},
		{[]byte("d"), nil, math.MaxInt, "d"},
		{[]byte("d\x00"), nil, math.MaxInt, ""},
		{[]byte("e"), nil, math.MaxInt, ""},
		{[]byte("b"), []byte("b"), 9, ""},
		{[]byte("bb"), []byte("bb"), 9, ""},
		{[]byte("b"), []byte("b\x00"), 9, "b"},
		{[]byte("b"), []byte("c"), 9, "b"},
		{[]byte("b"), []byte("d"), math.MaxInt, "bc"},
		{[]byte("c"), []byte("b"), 9, ""},
		{[]byte("d"), []byte("a"), math.MaxInt, ""},
		{[]byte("z"), []byte("a"), math.MaxInt, ""},
		{nil, []byte("a"), 9, ""},
		{nil, []byte("b"), 9, "a"},
		{nil, []byte("\x00"), 9, ""},
		{[]byte{}, []byte("\xff\xff"), 9, "abcd"},
		{[]byte("a\x00"), []byte("c\x00"), 9, "bc"},
	} {
		got := ""
		for _, p := range r.Range(c.from, c.to, c.most) {
			got += string(p.Key)
		}
		if got != c.want {
			t.Errorf("Range(%q, %q, %d): %s; want %s", c.from, c.to, c.most, got, c.want)
		}
	}
}

func TestP6_1At(t *testing.T) {
	for _, n := range []int{1, 2, 3, 4, 100} {
		b := of(t, numbers(n)...)
		b.is()
		for _, i := range []int{math.MinInt, math.MinInt + 1, -n, -1, n, n + 1, 2 * n, 1 << 32, math.MaxInt - 1, math.MaxInt} {
			if p, e := b.r.At(i); e != api.ErrRange || p.Key != nil || p.Value != nil {
				t.Errorf("At(%d) of %d: %v, %d; want ErrRange", i, n, p, e)
			}
		}
		b.is()
	}
}

func TestP6_1Rank(t *testing.T) {
	r := of(t, "b", "bb", "d").r
	for _, c := range []struct {
		key  []byte
		want int
	}{
		{nil, 0}, {[]byte{}, 0}, {[]byte("a"), 0}, {[]byte("b"), 0}, {[]byte("b\x00"), 1}, {[]byte("ba\xff"), 1}, {[]byte("bb"), 1}, {[]byte("bb\x00"), 2}, {[]byte("c"), 2}, {[]byte("d"), 2}, {[]byte("d\x00"), 3}, {[]byte("e"), 3}, {bytes.Repeat([]byte{255}, 300), 3},
	} {
		if n := r.Rank(c.key); n != c.want {
			t.Errorf("Rank(%q): %d; want %d", c.key, n, c.want)
		}
	}
}

// play does any calls with keys of a pool, on some trees that are clones of clones.
func play(t *testing.T, seed int64, pool []string, calls int) {
	t.Helper()
	rnd := rand.New(rand.NewSource(seed))
	one := func() string { return pool[rnd.Intn(len(pool))] }
	trees := []*both{newBoth(t)}
	for range calls {
		b := trees[rnd.Intn(len(trees))]
		switch n := rnd.Intn(20); {
		case n < 9:
			b.put(one(), number(rnd.Intn(1<<16)))
		case n < 16:
			b.delete(one())
		case n < 17 && len(trees) < 4:
			trees = append(trees, b.clone())
		case n < 18:
			trees[rnd.Intn(len(trees))] = b.clone()
		default:
			from, to, most := one(), one(), rnd.Intn(len(pool))
			are(t, "Range", b.r.Range([]byte(from), []byte(to), most), b.m.between(from, to, most))
		}
		if rnd.Intn(8) == 0 {
			b.is(one(), one())
		}
	}
	for _, b := range trees {
		b.is(pool...)
	}
}

func TestP6_1ListsOfCalls(t *testing.T) {
	for seed := range int64(30) {
		play(t, seed, few, 300)
		play(t, seed, few[:5], 100)
		play(t, seed, numbers(60), 600)
	}
	play(t, 99, numbers(400), 4000)
}

func TestP6_2EachOrder(t *testing.T) {
	keys := numbers(600)
	for _, come := range orders(keys) {
		b := of(t, come...) // the depth is asked behind each Put and Delete
		b.is()
		for _, gone := range orders(keys) {
			c := b.clone()
			for _, k := range gone {
				c.delete(k)
			}
			isEmpty(t, c.r)
		}
		b.is()
	}
}

// depthOf puts and deletes without a model, and asks the depth.
func depthOf(t *testing.T, r *tree.Tree, key string, put bool, pairs int) {
	t.Helper()
	if put && !r.Put([]byte(key), nil) || !put && !r.Delete([]byte(key)) || r.Len() != pairs {
		t.Fatalf("%q: not %v, or %d pairs; want %d", key, put, r.Len(), pairs)
	}
	isDeepEnough(t, r, pairs)
}

func TestP6_2Thousands(t *testing.T) {
	const n = 1 << 13
	keys := numbers(n)
	for name, come := range orders(keys) {
		r := tree.New()
		for i, k := range come {
			depthOf(t, r, k, true, i+1)
		}
		gone := come
		if name == "rising" {
			gone = shuffled(keys, 7)
		}
		for i, k := range gone {
			depthOf(t, r, k, false, n-1-i)
		}
	}
}

// Keys that come behind all, as the least one goes; and the other way round.
func TestP6_2ComeAndGo(t *testing.T) {
	for _, most := range []int{1, 2, 3, 10, 100, 255, 256} {
		for _, falling := range []bool{false, true} {
			r, keys := tree.New(), numbers(2000)
			if falling {
				slices.Reverse(keys)
			}
			for i, k := range keys {
				depthOf(t, r, k, true, min(i, most)+1)
				if i >= most {
					depthOf(t, r, keys[i-most], false, most)
				}
			}
		}
	}
}

// All that is on one side goes, or all but each third, or each one of a few at the middle.
func TestP6_2OneSideGoes(t *testing.T) {
	keys := numbers(1000)
	for name, stays := range map[string]func(i int) bool{
		"the greater half": func(i int) bool { return i >= 500 },
		"the lesser half":  func(i int) bool { return i < 500 },
		"the ends":         func(i int) bool { return i < 10 || i >= 990 },
		"the middle":       func(i int) bool { return i >= 490 && i < 510 },
		"each third":       func(i int) bool { return i%3 == 0 },
	} {
		for _, order := range orders(keys) {
			b := of(t, order...)
			for _, k := range order {
				if i := int(k[0])<<8 | int(k[1]); !stays(i) {
					b.delete(k)
				}
			}
			b.is()
			for _, k := range order {
				b.put(k, name)
			}
			b.is()
		}
	}
}

func TestP6_2DepthOfFewAndAfterReading(t *testing.T) {
	if d := of(t, "a").r.Depth(); d != 1 {
		t.Errorf("Depth of one pair: %d", d)
	}
	b := of(t, numbers(300)...)
	depth := b.r.Depth()
	b.is("", "behind all")
	for range 3 {
		b.r.Put([]byte(number(150)), []byte("other"))
		b.r.Delete([]byte("none"))
	}
	if d := b.r.Depth(); d != depth {
		t.Errorf("Depth: %d, and was %d", d, depth)
	}
	isDeepEnough(t, b.r.Clone(), 300)
}

// leads checks that At and Rank lead there and back, and each Range of asked keys against the pairs between two Ranks.
func leads(t *testing.T, r *tree.Tree, asked []string) {
	t.Helper()
	at := make([]tree.Pair, r.Len())
	for i := range at {
		p, e := r.At(i)
		if n := r.Rank(p.Key); e != api.OK || n != i {
			t.Fatalf("Rank of what is at %d: %d, %d", i, n, e)
		}
		at[i] = p
	}
	for _, k := range asked {
		n := r.Rank([]byte(k))
		v, ok := r.Get([]byte(k))
		if p, e := r.At(n); ok && (e != api.OK || string(p.Key) != k || !bytes.Equal(p.Value, v)) {
			t.Fatalf("At(Rank(%q)): %v, %d", k, p, e)
		} else if !ok && e == api.OK && string(p.Key) <= k {
			t.Fatalf("At(Rank(%q)) isn't behind it: %v", k, p)
		}
		if p, e := r.At(n - 1); n > 0 && (e != api.OK || string(p.Key) >= k) {
			t.Fatalf("At(Rank(%q) - 1) isn't ahead of it: %v", k, p)
		}
		for _, to := range asked {
			end := r.Rank([]byte(to))
			if to == "" {
				end = r.Len()
			}
			want := at[n:max(n, end)]
			for _, most := range []int{1, len(want), math.MaxInt} {
				got := r.Range([]byte(k), []byte(to), most)
				if !slices.EqualFunc(got, want[:min(most, len(want))], func(a, b tree.Pair) bool {
					return bytes.Equal(a.Key, b.Key) && bytes.Equal(a.Value, b.Value)
				}) {
					t.Fatalf("Range(%q, %q, %d): %v; want %v", k, to, most, got, want)
				}
			}
		}
	}
}

func TestP6_3ThereAndBack(t *testing.T) {
	for seed := range int64(3) {
		b := newBoth(t)
		leads(t, b.r, between(few))
		for _, k := range shuffled(few, seed) {
			b.put(k, valueOf(k))
			leads(t, b.r, few)
		}
		leads(t, b.r, between(few))
		for _, k := range shuffled(few, seed+9) {
			b.delete(k)
			leads(t, b.r, few)
			leads(t, b.r.Clone(), few)
		}
	}
}

func TestP6_3OfMany(t *testing.T) {
	b := newBoth(t)
	var asked []string
	for i, k := range shuffled(numbers(500), 4) {
		b.put(k, valueOf(k))
		if i%10 == 0 {
			asked = append(asked, k, k+"\x00")
		}
	}
	leads(t, b.r, append(asked, "", "\xff"))
	for i, k := range shuffled(numbers(500), 5) {
		b.delete(k)
		if i%100 == 50 {
			leads(t, b.r, append(asked, "", "\xff"))
		}
	}
}

// Each of some clones is changed by turns, and none of the others changes.
func TestP6_4ClonesOfClones(t *testing.T) {
	for _, n := range []int{0, 1, 2, 3, 20, 200} {
		b := of(t, numbers(n)...)
		trees := []*both{b}
		for i := range 6 {
			trees = append(trees, trees[i/2].clone())
		}
		for i, c := range trees {
			c.put(number(i), "changed by "+number(i))
			c.put("new "+number(i), "new")
			c.delete(number(n / 2))
			c.delete(number(i + 1))
			for _, other := range trees {
				other.is()
			}
		}
		for i, c := range trees {
			for _, k := range slices.Clone(c.m.keys) {
				c.delete(k)
			}
			isEmpty(t, c.r)
			for _, other := range trees[i:] {
				other.is()
			}
		}
	}
}

// A clone of a tree stays as it was, whatever is done to the tree; and the other way round.
func TestP6_4EachChangeOnEitherSide(t *testing.T) {
	for n := 1; n <= 33; n++ {
		whole := of(t, shuffled(numbers(n), int64(n))...)
		for i := range n + 1 {
			for side := range 2 {
				two := []*both{whole.clone(), nil}
				two[1] = two[0].clone()
				for _, change := range []func(b *both){
					func(b *both) { b.put(number(i), "other") },
					func(b *both) { b.delete(number(i)) },
					func(b *both) { b.put(number(i)+"\x00", "new") },
				} {
					change(two[side])
					two[1-side].is(number(i))
				}
				two[side].is(number(i))
			}
		}
		whole.is()
	}
}

// withRoom is a text's bytes, and room behind them that has others.
func withRoom(text string) (b, whole []byte) {
	whole = []byte(text + "spare")
	return whole[:len(text)], whole
}

// spoil writes over bytes, and over their spare room.
func spoil(b []byte) {
	b = b[:cap(b)]
	for i := range b {
		b[i] ^= 0xA5
	}
}

func TestP6_4PutKeepsNothing(t *testing.T) {
	b := newBoth(t)
	for _, k := range shuffled(append(few, few...), 6) { // each again, when it is there
		key, keyWhole := withRoom(k)
		value, valueWhole := withRoom(valueOf(k))
		if b.r.Put(key, value) != b.m.put(k, valueOf(k)) {
			t.Errorf("Put(%q)", k)
		}
		if string(keyWhole) != k+"spare" || string(valueWhole) != valueOf(k)+"spare" {
			t.Errorf("Put changes what it is given: %q, %q", keyWhole, valueWhole)
		}
		spoil(key)
		spoil(value)
		b.is()
	}
}

// One piece of memory as key and as value, and as keys and values one behind the other.
func TestP6_4PutOfOneMemory(t *testing.T) {
	b := newBoth(t)
	room := []byte("abcdef")
	for from := range room {
		for to := from; to <= len(room); to++ {
			b.r.Put(room[from:to], room[from:to])
			b.m.put(string(room[from:to]), string(room[from:to]))
			b.r.Put(room[from:to], room[:to-from])
			b.m.put(string(room[from:to]), string(room[:to-from]))
		}
	}
	b.is()
	spoil(room)
	b.is()
	for i := range 50 {
		copy(room, number(i))
		b.r.Put(room[:2], room[1:2])
		b.m.put(string(room[:2]), string(room[1:2]))
	}
	b.is()
}

func TestP6_4OtherCallsLeaveTheBytes(t *testing.T) {
	b := of(t, few...)
	for _, k := range between(few) {
		for _, call := range []func(key, to []byte){
			func(key, to []byte) { b.r.Get(key) },
			func(key, to []byte) { b.r.Rank(key) },
			func(key, to []byte) { b.r.Range(key, to, 3) },
			func(key, to []byte) { b.r.Range(to, key, math.MaxInt) },
		} {
			key, keyWhole := withRoom(k)
			to, toWhole := withRoom(k + "\xff")
			call(key, to)
			if string(keyWhole) != k+"spare" || string(toWhole) != k+"\xffspare" {
				t.Errorf("a call changes what it is given: %q, %q", keyWhole, toWhole)
			}
			spoil(key)
			spoil(to)
		}
		b.is()
	}
	for _, k := range few {
		key, whole := withRoom(k)
		if !b.r.Delete(key) || !b.m.delete(k) || string(whole) != k+"spare" {
			t.Errorf("Delete(%q): %q", k, whole)
		}
		spoil(key)
		b.is()
	}
}

func TestP6_4GetAnswersNewMemory(t *testing.T) {
	b := of(t, few...)
	c := b.clone()
	for _, k := range few {
		first, _ := b.r.Get([]byte(k))
		second, _ := b.r.Get([]byte(k))
		spoil(first)
		if string(second) != valueOf(k) {
			t.Errorf("two answers of Get share: %q", second)
		}
		b.is()
		c.is()
	}
}

func TestP6_4AtAnswersNewMemory(t *testing.T) {
	b := of(t, few...)
	c := b.clone()
	for i, k := range few {
		first, _ := b.r.At(i)
		second, _ := b.r.At(i)
		spoil(first.Key)
		if string(first.Value) != valueOf(k) {
			t.Errorf("key and value of an At share: %q", first.Value)
		}
		spoil(first.Value)
		if string(second.Key) != k || string(second.Value) != valueOf(k) {
			t.Errorf("two answers of At share: %q, %q", second.Key, second.Value)
		}
		b.is()
		c.is()
	}
}

func TestP6_4RangeAnswersNewMemory(t *testing.T) {
	b := of(t, few...)
	c := b.clone()
	for _, most := range []int{1, 5, len(few), math.MaxInt} {
		want := b.m.between("", "", most)
		all := b.r.Range(nil, nil, most)
		second := b.r.Range(nil, nil, most)
		for i := range all { // each one's bytes and spare room, then the others are as they were
			spoil(all[i].Key)
			if string(all[i].Value) != want.values[i] {
				t.Errorf("key and value of a pair share: %q", all[i].Value)
			}
			spoil(all[i].Value)
			are(t, "the others", all[i+1:], &told{want.keys[i+1:], want.values[i+1:]})
		}
		for i := range all[:cap(all)] {
			all[:cap(all)][i] = tree.Pair{Key: []byte("x")}
		}
		are(t, "another Range", second, want)
		b.is()
		c.is()
	}
}

// What was answered stays as it was, whatever is done to the tree.
func TestP6_4AnswersStay(t *testing.T) {
	b := of(t, few...)
	want := b.m.clone()
	all := b.r.Range(nil, nil, math.MaxInt)
	value, _ := b.r.Get([]byte("a"))
	pair, _ := b.r.At(3)
	for _, k := range few {
		b.put(k, "xxxxxxxxxxxxxxxxxx")
	}
	for _, k := range few {
		b.delete(k)
	}
	for _, k := range few {
		b.put(k, "y")
	}
	are(t, "a Range of old", all, want)
	if string(value) != "of a" || string(pair.Key) != few[3] || string(pair.Value) != valueOf(few[3]) {
		t.Errorf("answers of old: %q, %v", value, pair)
	}
}
