package record_test

import (
	"math"
	"math/rand"
	"slices"
	"strings"
	"testing"

	"rhizome/api"
	"rhizome/record"
)

// times is a list of n like c.
func times(n int, c ...api.Change) []api.Change { return slices.Repeat(c, n) }

func TestP15_1Examples(t *testing.T) {
	stands(t, drop("f"), "\x03\x66")
	stands(t, commit(), "\x01\x00")
	stands(t, commit(node(1)), "\x01\x01\x12"+"\x01\x80\x00\x00\x00\x00\x00\x00\x01"+"\x01\x80\x00\x00\x00\x00\x00\x00\x01")
}

func TestP15_1BytesOfEachKindOfChange(t *testing.T) {
	for _, c := range []struct {
		c    api.Change
		want string
	}{
		{node(258), "\x12\x01\x80\x00\x00\x00\x00\x00\x00\x01\x01\x80\x00\x00\x00\x00\x00\x01\x02"},
		{noNode(1000), "\x12\x01\x80\x00\x00\x00\x00\x00\x00\x02\x01\x80\x00\x00\x00\x00\x00\x03\xe8"},
		{edge(1, "a", 2), "\x1f\x01\x80\x00\x00\x00\x00\x00\x00\x03\x01\x80\x00\x00\x00\x00\x00\x00\x01\x02a\x00\x01\x01\x80\x00\x00\x00\x00\x00\x00\x02"},
		{noEdge(2, "zz", 2), "\x20\x01\x80\x00\x00\x00\x00\x00\x00\x04\x01\x80\x00\x00\x00\x00\x00\x00\x02\x02zz\x00\x01\x01\x80\x00\x00\x00\x00\x00\x00\x02"},
		{prop(1, "k", num(-1)), "\x16\x01\x80\x00\x00\x00\x00\x00\x00\x05\x01\x80\x00\x00\x00\x00\x00\x00\x01\x02k\x00\x01\x01\x01"},
		{prop(1, "k", text("a\x00")), "\x16\x01\x80\x00\x00\x00\x00\x00\x00\x05\x01\x80\x00\x00\x00\x00\x00\x00\x01\x02k\x00\x01\x02\x02a\x00"},
		{prop(1, "k", boolean(1)), "\x16\x01\x80\x00\x00\x00\x00\x00\x00\x05\x01\x80\x00\x00\x00\x00\x00\x00\x01\x02k\x00\x01\x03\x01"},
		{noProp(1, "k"), "\x16\x01\x80\x00\x00\x00\x00\x00\x00\x06\x01\x80\x00\x00\x00\x00\x00\x00\x01\x02k\x00\x01"},
	} {
		stands(t, commit(c.c), "\x01\x01"+c.want)
		stands(t, commit(c.c, node(258), c.c), "\x01\x03"+c.want+"\x12\x01\x80\x00\x00\x00\x00\x00\x00\x01\x01\x80\x00\x00\x00\x00\x00\x01\x02"+c.want)
		for _, u := range unused(c.c) {
			stands(t, commit(u), "\x01\x01"+c.want)
		}
	}
}

func TestP15_1Definitions(t *testing.T) {
	stands(t, define(reach("r", "k")), "\x02view r = reach k;")
	stands(t, define(reach("reach", "view")), "\x02view reach = reach view;")
	stands(t, define(pattern("f", "x y", "k x z k z y")), "\x02view f(x, y) = k(x, z), k(z, y);")
	stands(t, define(pattern("view", "y", "k x y")), "\x02view view(y) = k(x, y);")
	if b := checkRecord(t, define(longest())); len(b) != 1+5+16+1+6*16+5*2+4+8*(16+1+16+2+16+1)+7*2+1 {
		t.Errorf("the longest definition has %d bytes", len(b))
	}
}

func TestP15_1Drops(t *testing.T) {
	for n := range 40 {
		s := strings.Repeat("m", n)
		if n >= 1 && n <= api.MaxName {
			stands(t, drop(s), "\x03"+s)
			continue
		}
		notEncoded(t, drop(s), api.ErrRange)
		refused(t, "\x03"+s, api.ErrForm)
	}
	for _, s := range notNames() {
		notEncoded(t, drop(s), api.ErrRange)
	}
	for c := range 256 {
		for at := range 3 {
			b := []byte("abc")
			b[at] = byte(c)
			checkRecord(t, drop(string(b)))
			checkBytes(t, "\x03"+string(b))
		}
	}
}

func TestP15_1FormNodes(t *testing.T) {
	for n := -2; n <= 1003; n++ {
		for _, c := range []api.Change{node(n), noNode(n), edge(n, "a", 1), edge(1, "a", n), edge(n, "a", n), noEdge(n, "a", 1), noEdge(1, "a", n), prop(n, "k", num(0)), noProp(n, "k")} {
			want := api.OK
			if n < 1 || n > 1000 {
				want = api.ErrRange
			}
			if e := record.Form(c); e != want {
				t.Errorf("Form(%s): %d, want %d", told(c), e, want)
			}
			checkForm(t, c)
		}
	}
}

func TestP15_1FormNames(t *testing.T) {
	hold := func(s string) {
		t.Helper()
		for _, c := range []api.Change{edge(1, s, 2), noEdge(1, s, 2), prop(1, s, num(0)), noProp(1, s)} {
			checkForm(t, c)
		}
	}
	for n := range 300 {
		hold(strings.Repeat("z", n))
	}
	for c := range 256 {
		for n := 1; n <= api.MaxName; n++ {
			for at := range n {
				b := []byte(strings.Repeat("m", n))
				b[at] = byte(c)
				hold(string(b))
			}
		}
	}
	if record.Form(edge(1, "a", 2)) != api.OK || record.Form(noProp(1, "abcdefghijklmnop")) != api.OK || record.Form(noEdge(1, "", 2)) != api.ErrRange || record.Form(prop(1, "abcdefghijklmnopq", num(1))) != api.ErrRange {
		t.Error("names of 0, 1, 16 and 17 letters")
	}
}

func TestP15_1FormValues(t *testing.T) {
	for _, v := range values() {
		if e := record.Form(prop(1, "k", v)); e != api.OK {
			t.Errorf("%s: %d", told(v), e)
		}
		checkRecord(t, commit(prop(1, "k", v)))
	}
	for _, v := range notValues() {
		if e := record.Form(prop(1, "k", v)); e != api.ErrRange {
			t.Errorf("%s: %d", told(v), e)
		}
		if e := record.Form(api.Change{Kind: api.CNoProp, Node: 1, Key: "k", Value: v}); e != api.OK {
			t.Errorf("of a CNoProp: %d", e)
		}
	}
}

func TestP15_1FormKinds(t *testing.T) {
	full := api.Change{Node: 1, Edge: api.Edge{From: 1, Label: "a", To: 1}, Key: "k", Value: num(1)}
	for kind := -300; kind <= 600; kind++ {
		full.Kind = kind
		checkForm(t, full)
		checkRecord(t, commit(full))
		if e := record.Form(full); (e == api.OK) != (kind >= 1 && kind <= 6) {
			t.Errorf("Kind %d: %d", kind, e)
		}
	}
	for _, kind := range []int{math.MinInt, math.MinInt + 1, 1 << 32, 1<<32 + 1, math.MaxInt} {
		full.Kind = kind
		notEncoded(t, commit(full), api.ErrRange)
	}
	if e := record.Form(api.Change{}); e != api.ErrRange {
		t.Errorf("the zero change: %d", e)
	}
}

func TestP15_1FormUnused(t *testing.T) {
	for _, c := range eachKind() {
		for _, u := range unused(c) {
			if e := record.Form(u); e != api.OK {
				t.Errorf("Form(%s): %d", told(u), e)
			}
		}
	}
	for _, c := range notInForm() {
		full := c
		full.Node, full.Edge, full.Key, full.Value = 1, edge(1, "a", 2).Edge, "k", num(1)
		switch c.Kind {
		case api.CNode, api.CNoNode:
			full.Node = c.Node
		case api.CEdge, api.CNoEdge:
			full.Edge = c.Edge
		default:
			full.Node, full.Key, full.Value = c.Node, c.Key, c.Value
		}
		if record.Form(c) != api.ErrRange || record.Form(full) != api.ErrRange {
			t.Errorf("Form(%s): %d, %d", told(c), record.Form(c), record.Form(full))
		}
	}
}

func TestP15_1EncodeSamples(t *testing.T) {
	for _, r := range samples() {
		for _, with := range samples() {
			if checkRecord(t, loaded(r, with)) == "" {
				t.Errorf("%s is refused", told(r))
			}
		}
		if checkRecord(t, loaded(r, record.Record{Changes: times(61, node(0)), View: api.View{Name: "No", Kind: 9}, Name: "No"})) == "" {
			t.Errorf("%s is refused", told(r))
		}
	}
}

func TestP15_1EncodeKinds(t *testing.T) {
	full := record.Record{Changes: []api.Change{node(1)}, View: reach("r", "k"), Name: "f"}
	for kind := -300; kind <= 600; kind++ {
		full.Kind = kind
		checkRecord(t, full)
		if _, e := record.Encode(full); (e == api.OK) != (kind >= 1 && kind <= 3) {
			t.Errorf("Kind %d: %d", kind, e)
		}
	}
	for _, kind := range []int{math.MinInt, math.MinInt + 1, 1 << 32, 1<<32 + 1, math.MaxInt} {
		full.Kind = kind
		notEncoded(t, full, api.ErrRange)
	}
	notEncoded(t, record.Record{}, api.ErrRange)
}

func TestP15_1EncodeHowManyChanges(t *testing.T) {
	for n := range 300 {
		for _, c := range []api.Change{node(1), edge(1, "a", 2), prop(1, "k", num(1))} {
			r := commit(times(n, c)...)
			if n > api.MaxChange {
				notEncoded(t, r, api.ErrRange)
			} else if b := checkRecord(t, r); len(b) != 2+n*len(changeBytes(c)) || b[1] != byte(n) {
				t.Errorf("%d changes: %s", n, brief(b))
			}
		}
	}
	for _, n := range []int{256, 257, 316, 65536, 65537, 65596} {
		notEncoded(t, commit(times(n, node(1))...), api.ErrRange)
	}
}

// TestP15_1EncodeEachPlace has a change that isn't in form at each place of a commit.
func TestP15_1EncodeEachPlace(t *testing.T) {
	for _, wrong := range notInForm() {
		notEncoded(t, commit(wrong), api.ErrRange)
		notEncoded(t, commit(node(1), wrong), api.ErrRange)
		notEncoded(t, commit(wrong, node(1)), api.ErrRange)
	}
	for n := 1; n <= api.MaxChange; n++ {
		for at := range n {
			l := times(n, node(1))
			l[at] = edge(1, "a", 1001)
			notEncoded(t, commit(l...), api.ErrRange)
		}
	}
	for _, c := range eachKind() {
		c.Kind += 256
		notEncoded(t, commit(node(1), c), api.ErrRange)
	}
}

func TestP15_1EncodeNoViews(t *testing.T) {
	for _, v := range []api.View{
		{}, {Name: "r", Kind: api.KReach}, {Kind: api.KReach, Label: "k"}, reach("R", "k"), reach("r", "abcdefghijklmnopq"), {Name: "r", Kind: 3, Label: "k"},
		{Name: "r", Kind: api.KReach, Label: "k", Out: []string{"x"}}, {Name: "r", Kind: api.KReach, Label: "k", Atoms: []api.Atom{{From: "x", Label: "k", To: "y"}}},
		pattern("f", "", "k x y"), pattern("f", "x", ""), pattern("f", "q", "k x y"), pattern("f", "x x", "k x y"), pattern("f", "x y", "k x Y"), pattern("", "x", "k x y"),
		{Name: "f", Kind: api.KPattern, Label: "k", Out: []string{"x"}, Atoms: []api.Atom{{From: "x", Label: "k", To: "y"}}},
		pattern("f", "a b c d e g h", "k a b k c d k e g k h h"), pattern("f", "x", strings.Repeat("k x y ", 9)),
	} {
		notEncoded(t, define(v), api.ErrRange)
		notEncoded(t, record.Record{Kind: record.Define, View: v, Name: "f", Changes: []api.Change{node(1)}}, api.ErrRange)
	}
	if checkRecord(t, define(pattern("f", "a b c d e g", strings.Repeat("k a b k c d k e g ", 2)+"k x y k y y"))) == "" {
		t.Error("six outputs and eight atoms are refused")
	}
}

// sized is a commit of so many bytes: of properties whose keys and texts are long, but two.
func sized(t *testing.T, size int) record.Record {
	t.Helper()
	most := len(changeBytes(prop(1, strings.Repeat("k", 16), text(strings.Repeat("x", 64)))))
	least := len(changeBytes(prop(1, "k", text(""))))
	l := times((size-2)/most-1, prop(1000, strings.Repeat("k", 16), text(strings.Repeat("x", 64))))
	rest := size - 2 - len(l)*most
	for rest > 0 {
		n := min(rest, most)
		if rest > most {
			n = rest / 2
		}
		k := min(n-least+1, 16)
		l = append(l, prop(1, strings.Repeat("k", k), text(strings.Repeat("x", n-least+1-k))))
		rest -= n
	}
	if r := commit(l...); len(commitBytes(l...)) == size {
		return r
	}
	t.Fatalf("no commit of %d bytes", size)
	return record.Record{}
}

func TestP15_1EncodeLong(t *testing.T) {
	for size := 3900; size <= 4200; size++ {
		r := sized(t, size)
		if size > api.MaxRecord {
			notEncoded(t, r, api.ErrLong)
		} else if b := checkRecord(t, r); len(b) != size {
			t.Errorf("%d bytes, not %d", len(b), size)
		}
	}
	greatest := times(60, prop(1, strings.Repeat("k", 16), text(strings.Repeat("x", 64))))
	notEncoded(t, commit(greatest...), api.ErrLong)
	for n := range 60 {
		checkRecord(t, commit(greatest[:n]...))
	}
	many := append(times(59, prop(1, "kk", text(strings.Repeat("x", 41)))), node(1)) // 60 changes around MaxRecord bytes
	for n := range api.MaxText + 1 {
		many[59] = prop(1, "k", text(strings.Repeat("x", n)))
		checkRecord(t, commit(many...))
	}
	notEncoded(t, commit(many...), api.ErrLong)
}

// TestP15_1EncodeRangeAheadOfLong has commits that are too long, and no records.
func TestP15_1EncodeRangeAheadOfLong(t *testing.T) {
	long := times(60, prop(1, strings.Repeat("k", 16), text(strings.Repeat("x", 64))))
	for at := range long {
		for _, wrong := range []api.Change{node(0), edge(1, "", 1), prop(1, "k", text(strings.Repeat("x", 65))), prop(1, strings.Repeat("k", 17), num(1)), {}} {
			l := slices.Clone(long)
			l[at] = wrong
			notEncoded(t, commit(l...), api.ErrRange)
		}
	}
	notEncoded(t, commit(append(long, long[0])...), api.ErrRange)
	notEncoded(t, commit(times(300, long[0])...), api.ErrRange)
	notEncoded(t, drop(strings.Repeat("f", 5000)), api.ErrRange)
	notEncoded(t, define(reach("r", strings.Repeat("k", 5000))), api.ErrRange)
	notEncoded(t, define(pattern("f", "x", strings.Repeat("k x y ", 1000))), api.ErrRange)
	notEncoded(t, record.Record{Kind: 4, Changes: long}, api.ErrRange)
}

// TestP15_1EncodeRandomFaults has records with a fault or two, or none.
func TestP15_1EncodeRandomFaults(t *testing.T) {
	r := rand.New(rand.NewSource(151))
	wrong := notInForm()
	for range 4000 {
		one := drawn(r)
		for range r.Intn(3) {
			switch c := wrong[r.Intn(len(wrong))]; r.Intn(5) {
			case 0:
				one.Kind = r.Intn(6) - 1
			case 1:
				one.Changes = append(one.Changes, c)
			case 2:
				one.Changes = slices.Insert(one.Changes, 0, drawnChange(r), drawnChange(r), drawnChange(r))
			case 3:
				one.Name = notNames()[r.Intn(len(notNames()))]
			default:
				one.View.Label = []string{"", "k", "K"}[r.Intn(3)]
			}
		}
		checkRecord(t, one)
	}
}
