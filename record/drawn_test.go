package record_test

import (
	"math"
	"math/rand"
	"strings"
	"unicode/utf8"

	"rhizome/api"
	"rhizome/record"
)

func node(n int) api.Change   { return api.Change{Kind: api.CNode, Node: n} }
func noNode(n int) api.Change { return api.Change{Kind: api.CNoNode, Node: n} }

func edge(from int, label string, to int) api.Change {
	return api.Change{Kind: api.CEdge, Edge: api.Edge{From: from, Label: label, To: to}}
}

func noEdge(from int, label string, to int) api.Change {
	return api.Change{Kind: api.CNoEdge, Edge: api.Edge{From: from, Label: label, To: to}}
}

func prop(n int, key string, v api.Value) api.Change {
	return api.Change{Kind: api.CProp, Node: n, Key: key, Value: v}
}

func noProp(n int, key string) api.Change {
	return api.Change{Kind: api.CNoProp, Node: n, Key: key}
}

func num(n int) api.Value     { return api.Value{Kind: api.VInt, Int: n} }
func text(s string) api.Value { return api.Value{Kind: api.VText, Text: s} }
func boolean(n int) api.Value { return api.Value{Kind: api.VBool, Int: n} }

func commit(l ...api.Change) record.Record { return record.Record{Kind: record.Commit, Changes: l} }
func define(v api.View) record.Record      { return record.Record{Kind: record.Define, View: v} }
func drop(name string) record.Record       { return record.Record{Kind: record.Drop, Name: name} }

func reach(name, label string) api.View {
	return api.View{Name: name, Kind: api.KReach, Label: label}
}

// pattern is one of the outputs in out, and of atoms of three names each: label, From, To.
func pattern(name, out, atoms string) api.View {
	v := api.View{Name: name, Kind: api.KPattern, Out: strings.Fields(out)}
	w := strings.Fields(atoms)
	for i := 0; i < len(w); i += 3 {
		v.Atoms = append(v.Atoms, api.Atom{Label: w[i], From: w[i+1], To: w[i+2]})
	}
	return v
}

// eachKind are changes of each Kind, in form.
func eachKind() []api.Change {
	return []api.Change{
		node(1), noNode(api.MaxNode), edge(1, "a", 2), noEdge(1000, "abcdefghijklmnop", 1000), noProp(255, "key"), noProp(256, "z"),
		prop(3, "k", num(-1)), prop(3, "k", num(64)), prop(3, "k", boolean(0)), prop(999, "kk", boolean(1)), prop(1, "k", text("")), prop(1, "k", text("é\x00\x01")),
	}
}

// samples are records of each Kind.
func samples() []record.Record {
	out := []record.Record{
		commit(), commit(eachKind()...), drop("f"), drop("view"), drop("abcdefghijklmnop"),
		define(reach("r", "k")), define(reach("reach", "view")), define(pattern("f", "x y", "k x z k z y")), define(pattern("f", "x", "k x x")), define(longest()),
	}
	for _, c := range eachKind() {
		out = append(out, commit(c), commit(node(7), c), commit(c, c))
	}
	return out
}

// longest is the view whose text has the most bytes.
func longest() api.View {
	name := func(c string) string { return strings.Repeat(c, api.MaxName) }
	v := api.View{Name: name("v"), Kind: api.KPattern}
	for i := range api.MaxAtoms {
		v.Atoms = append(v.Atoms, api.Atom{From: name(string(rune('a' + i))), Label: name("k"), To: name(string(rune('b' + i)))})
	}
	for i := range api.MaxOut {
		v.Out = append(v.Out, name(string(rune('a'+i))))
	}
	return v
}

// notInForm are changes that are not, for one fault each.
func notInForm() []api.Change {
	var out []api.Change
	for _, n := range []int{0, 1001, -1, math.MinInt, math.MaxInt, 1 << 32, 1<<32 + 1, 1<<63 - 1000, -1000} {
		out = append(out, node(n), noNode(n), edge(n, "a", 1), edge(1, "a", n), noEdge(n, "a", 1), noEdge(1, "a", n), prop(n, "k", num(1)), noProp(n, "k"))
	}
	for _, s := range notNames() {
		out = append(out, edge(1, s, 2), noEdge(1, s, 2), prop(1, s, num(1)), noProp(1, s))
	}
	for _, v := range notValues() {
		out = append(out, prop(1, "k", v))
	}
	return out
}

// notNames aren't.
func notNames() []string {
	return []string{"", "abcdefghijklmnopq", strings.Repeat("z", 255), "A", "aB", "a1", "a b", " a", "a ", "a\n", "é", "aé", "{", "`", "\x00", "a\x00", "\x00a", "\x00\xff", "\x00\x01", "\xff", "a_", "view ", "k;", strings.Repeat("z", 1<<16)}
}

// notValues are none whose bytes could be written.
func notValues() []api.Value {
	return []api.Value{
		{}, {Int: 1, Text: "a"}, {Kind: 4}, {Kind: 255}, {Kind: -1, Int: 1}, {Kind: 257, Int: 7}, {Kind: 258, Text: "a"}, boolean(2), boolean(-1), boolean(256), boolean(257),
		text("\xff"), text("a\xc3"), text("\xed\xa0\x80"), text("\xf4\x90\x80\x80"), text("\xc0\x80"), text(strings.Repeat("x", 65)), text(strings.Repeat("é", 32) + "x"), text(strings.Repeat("x", 63) + "é"), text(strings.Repeat("x", 255)),
	}
}

// values are some at the ends of what they may be.
func values() []api.Value {
	out := []api.Value{boolean(0), boolean(1), num(math.MinInt), num(math.MinInt + 1), num(math.MaxInt), num(math.MaxInt - 1)}
	for _, n := range []int{0, 1, 2, 63, 64, 65, 127, 128, 8191, 8192, 1<<20 - 1, 1 << 20, 1 << 62} {
		out = append(out, num(n), num(-n), num(-n-1))
	}
	for _, s := range []string{"", "a", "\x00", "\x00\x01", "\x01\u0080", "\n\"\\", "é", "\u2190", "\U0010ffff", "\x7f", "\ufffd", "\ud7ff\ue000"} {
		out = append(out, text(s))
	}
	return append(out, text(strings.Repeat("x", 64)), text(strings.Repeat("x", 63)), text(strings.Repeat("é", 32)), text(strings.Repeat("\U00010000", 16)), text(strings.Repeat("\x00", 64)))
}

// unused are changes like c, with what they may hold of others in the fields that c's Kind doesn't use.
func unused(c api.Change) []api.Change {
	var out []api.Change
	for _, full := range []api.Change{
		{Node: 5, Edge: api.Edge{From: 6, Label: "other", To: 7}, Key: "other", Value: text("other")},
		{Node: -5, Edge: api.Edge{From: 1001, Label: "No", To: -7}, Key: "\xff", Value: api.Value{Kind: 9, Int: 8, Text: "\xff"}},
		{Node: math.MinInt, Edge: api.Edge{From: math.MaxInt, Label: strings.Repeat("x", 5000)}, Key: strings.Repeat("\x00", 5000), Value: text(strings.Repeat("x", 5000))},
	} {
		full.Kind = c.Kind
		switch c.Kind {
		case api.CNode, api.CNoNode:
			full.Node = c.Node
		case api.CEdge, api.CNoEdge:
			full.Edge = c.Edge
		case api.CProp:
			full.Node, full.Key = c.Node, c.Key
			full.Value.Kind = c.Value.Kind
			if c.Value.Kind == api.VText {
				full.Value.Text = c.Value.Text
			} else {
				full.Value.Int = c.Value.Int
			}
		default:
			full.Node, full.Key = c.Node, c.Key
		}
		out = append(out, full)
	}
	return out
}

// loaded is a record like r, with what it may hold of others in the fields that its Kind doesn't use.
func loaded(r record.Record, with record.Record) record.Record {
	with.Kind = r.Kind
	switch r.Kind {
	case record.Commit:
		with.Changes = r.Changes
	case record.Define:
		with.View = r.View
	default:
		with.Name = r.Name
	}
	return with
}

func drawnNode(r *rand.Rand) int {
	return []int{1, 2, 255, 256, 257, 511, 512, 999, api.MaxNode, 1 + r.Intn(api.MaxNode)}[r.Intn(10)]
}

func drawnName(r *rand.Rand) string {
	if r.Intn(3) > 0 {
		return []string{"x", "y", "z", "view", "reach", "xy", "abcdefghijklmnop", "k"}[r.Intn(8)]
	}
	b := make([]byte, 1+r.Intn(api.MaxName))
	for i := range b {
		b[i] = byte('a' + r.Intn(26))
	}
	return string(b)
}

func drawnText(r *rand.Rand) string {
	var b []byte
	for most := r.Intn(api.MaxText + 1); ; {
		next := utf8.AppendRune(b, []rune{0, 1, 2, 'a', '"', 0x80, 0xff, 0x2190, 0x10ffff, rune(r.Intn(0x110000))}[r.Intn(10)])
		if len(next) > most {
			return string(b)
		}
		b = next
	}
}

func drawnValue(r *rand.Rand) api.Value {
	switch r.Intn(4) {
	case 0:
		return values()[r.Intn(len(values()))]
	case 1:
		return num(int(r.Uint64() >> r.Intn(64)))
	case 2:
		return boolean(r.Intn(2))
	}
	return text(drawnText(r))
}

// drawnChange is one in form that has, now and then, something in fields that its Kind doesn't use.
func drawnChange(r *rand.Rand) api.Change {
	var c api.Change
	switch r.Intn(7) {
	case 0:
		c = node(drawnNode(r))
	case 1:
		c = noNode(drawnNode(r))
	case 2:
		c = edge(drawnNode(r), drawnName(r), drawnNode(r))
	case 3:
		c = noEdge(drawnNode(r), drawnName(r), drawnNode(r))
	case 4:
		c = noProp(drawnNode(r), drawnName(r))
	default:
		c = prop(drawnNode(r), drawnName(r), drawnValue(r))
	}
	if r.Intn(3) == 0 {
		return unused(c)[r.Intn(2)]
	}
	return c
}

// drawnChanges are few, or some, or as many as may be; of these some make records of around MaxRecord bytes.
func drawnChanges(r *rand.Rand) []api.Change {
	var out []api.Change
	great := r.Intn(4) == 0
	for range []int{r.Intn(4), r.Intn(12), r.Intn(api.MaxChange + 1), api.MaxChange}[r.Intn(4)] {
		c := drawnChange(r)
		if great && c.Kind == api.CProp || great && r.Intn(2) == 0 {
			c = prop(drawnNode(r), strings.Repeat("k", api.MaxName-r.Intn(4)), text(strings.Repeat("x", api.MaxText-r.Intn(9))))
		}
		out = append(out, c)
	}
	return out
}

func drawnView(r *rand.Rand) api.View {
	if r.Intn(3) == 0 {
		return reach(drawnName(r), drawnName(r))
	}
	v := api.View{Name: drawnName(r), Kind: api.KPattern}
	for range 1 + r.Intn(api.MaxAtoms) {
		v.Atoms = append(v.Atoms, api.Atom{From: drawnName(r), Label: drawnName(r), To: drawnName(r)})
	}
	for _, i := range r.Perm(len(v.Atoms))[:1+r.Intn(min(len(v.Atoms), api.MaxOut))] {
		name := []string{v.Atoms[i].From, v.Atoms[i].To}[r.Intn(2)]
		if !strings.Contains(" "+strings.Join(v.Out, " ")+" ", " "+name+" ") {
			v.Out = append(v.Out, name)
		}
	}
	return v
}

// drawn is a record that has, now and then, something in fields that its Kind doesn't use.
func drawn(r *rand.Rand) record.Record {
	full := record.Record{Changes: drawnChanges(r), View: drawnView(r), Name: drawnName(r)}
	full.Kind = []int{record.Commit, record.Commit, record.Define, record.Drop}[r.Intn(4)]
	if r.Intn(2) == 0 {
		return full
	}
	return loaded(full, record.Record{})
}
