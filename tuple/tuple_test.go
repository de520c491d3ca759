package tuple_test

import (
	"math"
	"math/rand"
	"slices"
	"testing"

	"rhizome/api"
	"rhizome/tuple"
)

// holdsDiff holds Diff to what is told.
func holdsDiff(t *testing.T, from, to []api.Tuple) {
	t.Helper()
	want, e := toldDiff(from, to)
	if d, got := tuple.Diff(from, to); got != e || !equalDeltas(d, want) {
		t.Fatalf("Diff(%v, %v): %v, %d, want %v, %d", from, to, d, got, want, e)
	}
}

// holdsApply holds Apply to what is told.
func holdsApply(t *testing.T, s []api.Tuple, d api.Delta) {
	t.Helper()
	want, e := toldApply(s, d)
	if l, got := tuple.Apply(s, d); got != e || !equal(l, want) {
		t.Fatalf("Apply(%v, %v): %v, %d, want %v, %d", s, d, l, got, want, e)
	}
}

// holdsThen holds Then to what is told.
func holdsThen(t *testing.T, a, b api.Delta) {
	t.Helper()
	want, e := toldThen(a, b)
	if d, got := tuple.Then(a, b); got != e || !equalDeltas(d, want) {
		t.Fatalf("Then(%v, %v): %v, %d, want %v, %d", a, b, d, got, want, e)
	}
}

// holdsList holds what takes one list to what is told.
func holdsList(t *testing.T, l []api.Tuple) {
	t.Helper()
	if s := tuple.Set(l); !equal(s, setOf(l)) {
		t.Fatalf("Set(%v): %v, want %v", l, s, setOf(l))
	}
	if got := tuple.Rises(l); got != isSet(l) {
		t.Fatalf("Rises(%v): %v", l, got)
	}
}

// holdsHas holds Has to what is told.
func holdsHas(t *testing.T, l []api.Tuple, u api.Tuple) {
	t.Helper()
	if got := tuple.Has(l, u); got != has(l, u) {
		t.Fatalf("Has(%v, %v): %v", l, u, got)
	}
}

// few are tuples of none, of one, of two numbers that begin each other, rising.
func few() []api.Tuple { return list("()(1)(1 -1)(2)") }

func TestP10_1Examples(t *testing.T) {
	if d, e := tuple.Diff(list("(1)(2)"), list("(2)(3)")); e != api.OK || !equalDeltas(d, delta("(3)", "(1)")) {
		t.Errorf("Diff: %v, %d", d, e)
	}
	if d, e := tuple.Then(delta("(3)", ""), delta("(4)", "(3)")); e != api.OK || !equalDeltas(d, delta("(4)", "")) {
		t.Errorf("Then: %v, %d", d, e)
	}
}

// ladder is tuples of many kinds, rising.
func ladder() []api.Tuple {
	return list("()(min)(min min)(min min max)(min max)(-10)(-2)(-1)(-1 -1)(-1 0)(-1 0 0)(-1 max)(0)(0 min)(0 -1)(0 0)(0 0 0)(0 0 0 0)(0 0 1)(0 1)(0 1 0)(1)(1 min)(1 0)(1 0 9)(1 1)(1 2)(1 10)(1 max)(2)(2 -5)(9)(10)(11)(99 0)(100)(max)(max min)(max 0)(max max)(max max min)")
}

func TestP10_1Cmp(t *testing.T) {
	l := ladder()
	for i, a := range l {
		for j, b := range l {
			want := min(max(i-j, -1), 1)
			if got := tuple.Cmp(a, b); got != want {
				t.Errorf("Cmp(%v, %v): %d, want %d", a, b, got, want)
			}
			if got := tuple.Cmp(a, slices.Clone(b)); got != want {
				t.Errorf("Cmp(%v, %v) of a clone: %d, want %d", a, b, got, want)
			}
		}
	}
}

func TestP10_1CmpOfNone(t *testing.T) {
	none, empty := api.Tuple(nil), api.Tuple{}
	if tuple.Cmp(none, none) != 0 || tuple.Cmp(none, empty) != 0 || tuple.Cmp(empty, none) != 0 || tuple.Cmp(empty, empty) != 0 {
		t.Error("a tuple of none and itself")
	}
	for _, u := range ladder()[1:] {
		if tuple.Cmp(none, u) != -1 || tuple.Cmp(u, none) != 1 || tuple.Cmp(empty, u) != -1 || tuple.Cmp(u, empty) != 1 {
			t.Errorf("a tuple of none and %v", u)
		}
	}
}

func TestP10_1CmpLong(t *testing.T) {
	a := make(api.Tuple, 5000)
	for _, i := range []int{0, 1, 2500, 4998, 4999} {
		b := slices.Clone(a)
		b[i] = math.MinInt
		if tuple.Cmp(a, b) != 1 || tuple.Cmp(b, a) != -1 || tuple.Cmp(a[:i], b[:i]) != 0 || tuple.Cmp(a[:i], b) != -1 || tuple.Cmp(b, b[:i]) != 1 {
			t.Errorf("at %d", i)
		}
	}
}

func TestP10_1CmpDrawn(t *testing.T) {
	r := rand.New(rand.NewSource(1001))
	for range 50000 {
		a, b := anyTuple(r), anyTuple(r)
		if got := tuple.Cmp(a, b); got != order(a, b) {
			t.Fatalf("Cmp(%v, %v): %d", a, b, got)
		}
	}
}

func TestP10_1Set(t *testing.T) {
	for _, c := range [][2]string{
		{"", ""}, {"()", "()"}, {"(1)", "(1)"}, {"(max)", "(max)"},
		{"(1)(2)(3)", "(1)(2)(3)"}, {"()(1)(1 1)(2)", "()(1)(1 1)(2)"},
		{"(3)(2)(1)", "(1)(2)(3)"}, {"(2)(1 1)(1)()", "()(1)(1 1)(2)"},
		{"(2)(3)(1)", "(1)(2)(3)"}, {"(1 2)()(1)(0 9)(1 1)", "()(0 9)(1)(1 1)(1 2)"},
		{"(1)(1)", "(1)"}, {"()()", "()"}, {"(1)(1)(1)", "(1)"}, {"(1)(2)(1)", "(1)(2)"}, {"(2)(1)(2)(1)(2)", "(1)(2)"}, {"(1 2)(1)(3)(1 2)", "(1)(1 2)(3)"},
		{"(max)(min)(0)(-1)(1)", "(min)(-1)(0)(1)(max)"}, {"(-1)(-2)(-10)", "(-10)(-2)(-1)"}, {"(min max)(min min)(min)", "(min)(min min)(min max)"},
		{"(10)(9)(100)", "(9)(10)(100)"},
	} {
		if got := tuple.Set(list(c[0])); !equal(got, list(c[1])) {
			t.Errorf("Set(%s): %v, want %s", c[0], got, c[1])
		}
	}
	if got := tuple.Set([]api.Tuple{{1}, nil, {}, nil}); !equal(got, list("()(1)")) {
		t.Errorf("of tuples that are nil: %v", got)
	}
}

func TestP10_1Rises(t *testing.T) {
	for _, s := range []string{"", "()", "(1)", "(min)", "()(1)", "(1)(2)", "(1)(1 1)", "(1)(1 min)", "(1 9)(2)", "(min)(-1)(0)(1)(max)", "(-2)(-1)", "(0)(0 0)(0 0 0)"} {
		if !tuple.Rises(list(s)) {
			t.Errorf("Rises(%s): false", s)
		}
	}
	for _, s := range []string{"()()", "(1)(1)", "(2)(1)", "(1)()", "(1 1)(1)", "(1 min)(1)", "(2)(1 9)", "(max)(min)", "(-1)(-2)", "(0)(-1)", "(1)(2)(1)", "(1)(2)(2)", "(1)(1)(2)", "(2)(1)(3)", "(1)(3)(2)", "(1)(2)(3)(3)", "(10)(9)", "(1)(3)(5)(4)"} {
		if tuple.Rises(list(s)) {
			t.Errorf("Rises(%s): true", s)
		}
	}
	if tuple.Rises([]api.Tuple{nil, {}}) || tuple.Rises([]api.Tuple{{}, nil}) || !tuple.Rises([]api.Tuple{nil, {0}}) || !tuple.Rises([]api.Tuple{}) {
		t.Error("of tuples that are nil")
	}
	if l := ladder(); !tuple.Rises(l) || tuple.Rises(append(l, list("(max max)")...)) {
		t.Error("of many")
	}
}

func TestP10_1HasOfASet(t *testing.T) {
	l := ladder()
	for i, u := range l {
		if !tuple.Has(l, slices.Clone(u)) {
			t.Errorf("%v", u)
		}
		if tuple.Has(slices.Delete(slices.Clone(l), i, i+1), u) {
			t.Errorf("%v, which isn't there", u)
		}
	}
	for _, u := range list("(min 0)(-3)(0 0 0 0 0)(3)(1 3)(max max max)(0 0 -1)") {
		if tuple.Has(l, u) {
			t.Errorf("%v", u)
		}
	}
	if tuple.Has(nil, nil) || tuple.Has(nil, one("1")) || tuple.Has([]api.Tuple{}, one("")) || !tuple.Has(list("()"), nil) || !tuple.Has([]api.Tuple{nil}, one("")) || tuple.Has(list("(0)"), nil) || tuple.Has(list("()"), one("0")) {
		t.Error("of none")
	}
}

func TestP10_1HasOfAnyList(t *testing.T) {
	for _, s := range []string{"(3)(2)(1)", "(2)(3)(1)", "(1)(1)(2)(3)", "(3)(1)(2)(3)(1)", "(2)(1)(3)", "(3)(3)(2)(2)(1)(1)", "(9)(1)(8)(2)(7)(3)(6)", "(max)(3)(min)(1)(0)(2)(-1)"} {
		for _, u := range list("(1)(2)(3)") {
			if !tuple.Has(list(s), u) {
				t.Errorf("Has(%s, %v): false", s, u)
			}
		}
		for _, u := range list("()(4)(1 1)(-3)(3 2)(2 0)") {
			if tuple.Has(list(s), u) {
				t.Errorf("Has(%s, %v): true", s, u)
			}
		}
	}
}

func TestP10_1Diff(t *testing.T) {
	for _, c := range [][4]string{
		{"", "", "", ""}, {"(1)", "(1)", "", ""}, {"()", "()", "", ""}, {"()(1)(1 1)(2)", "()(1)(1 1)(2)", "", ""},
		{"", "(1)", "(1)", ""}, {"(1)", "", "", "(1)"}, {"", "()", "()", ""}, {"()", "", "", "()"}, {"", "(1)(1 1)(2)", "(1)(1 1)(2)", ""}, {"(1)(1 1)(2)", "", "", "(1)(1 1)(2)"},
		{"(1)", "(2)", "(2)", "(1)"}, {"(2)", "(1)", "(1)", "(2)"}, {"(1)(3)", "(2)(4)", "(2)(4)", "(1)(3)"}, {"(1)(2)", "(3)(4)", "(3)(4)", "(1)(2)"},
		{"(1)(2)(3)", "(2)", "", "(1)(3)"}, {"(2)", "(1)(2)(3)", "(1)(3)", ""}, {"(1)(2)(3)", "(2)(3)(4)", "(4)", "(1)"}, {"(1)(3)(5)", "(0)(3)(9)", "(0)(9)", "(1)(5)"},
		{"(1)", "(1 1)", "(1 1)", "(1)"}, {"()(1)", "(1)(1 0)", "(1 0)", "()"}, {"(min)(0)", "(0)(max)", "(max)", "(min)"}, {"(-2)(-1)", "(-3)(-1)", "(-3)", "(-2)"},
	} {
		if d, e := tuple.Diff(list(c[0]), list(c[1])); e != api.OK || !equalDeltas(d, delta(c[2], c[3])) {
			t.Errorf("Diff(%s, %s): %v, %d", c[0], c[1], d, e)
		}
	}
}

// nones are lists that aren't sets.
func nones() []string {
	return []string{"(1)(1)", "()()", "(2)(1)", "(1)()", "(1 1)(1)", "(1)(2)(1)", "(1)(3)(2)", "(1)(2)(2)", "(max)(min)", "(3)(3)(4)", "(7)(6)(8)"}
}

func TestP10_1DiffOfNoSet(t *testing.T) {
	for _, none := range nones() {
		for _, c := range [][2]string{{none, ""}, {"", none}, {none, "(1)"}, {"(1)", none}, {none, "(8)(9)"}, {"(8)(9)", none}, {none, none}} {
			if d, e := tuple.Diff(list(c[0]), list(c[1])); e != api.ErrRange || !equalDeltas(d, api.Delta{}) {
				t.Errorf("Diff(%s, %s): %v, %d", c[0], c[1], d, e)
			}
		}
	}
}

// applies holds Apply to an answer.
func applies(t *testing.T, s, add, del, want string, e api.Errno) {
	t.Helper()
	if l, got := tuple.Apply(list(s), delta(add, del)); got != e || !equal(l, list(want)) {
		t.Errorf("Apply(%s, Add %s Del %s): %v, %d, want %s, %d", s, add, del, l, got, want, e)
	}
}

func TestP10_1Apply(t *testing.T) {
	for _, s := range []string{"", "()", "(1)", "(1)(2)(3)", "()(1)(1 1)"} {
		applies(t, s, "", "", s, api.OK)
		applies(t, s, "(5)", "", s+"(5)", api.OK)
		applies(t, "", s, "", s, api.OK)
		applies(t, s, "", s, "", api.OK)
		applies(t, s, "(7)", s, "(7)", api.OK)
	}
	applies(t, "(2)", "(1)(3)", "", "(1)(2)(3)", api.OK)
	applies(t, "(1)(3)", "(0)(2)(4)", "", "(0)(1)(2)(3)(4)", api.OK)
	applies(t, "(1)(2)(3)", "", "(2)", "(1)(3)", api.OK)
	applies(t, "(1)(2)(3)", "", "(1)(3)", "(2)", api.OK)
	applies(t, "(1)(2)(3)", "(0)(4)", "(1)(3)", "(0)(2)(4)", api.OK)
	applies(t, "(1)", "()(1 1)", "(1)", "()(1 1)", api.OK)
	applies(t, "(1 1)(2)", "(1)", "(1 1)", "(1)(2)", api.OK)
	applies(t, "(0)", "(min)(max)", "", "(min)(0)(max)", api.OK)
	applies(t, "(min)(-1)(max)", "(-2)", "(min)(max)", "(-2)(-1)", api.OK)
}

func TestP10_1ApplyOfWhatDoesNotFit(t *testing.T) {
	applies(t, "(1)", "(1)", "", "", api.ErrTwice)
	applies(t, "()", "()", "", "", api.ErrTwice)
	applies(t, "(1)(2)(3)", "(0)(3)", "", "", api.ErrTwice)
	applies(t, "(1)(2)(3)", "(1)(4)", "(2)", "", api.ErrTwice)
	applies(t, "", "", "(1)", "", api.ErrNone)
	applies(t, "", "", "()", "", api.ErrNone)
	applies(t, "(1)(2)(3)", "", "(0)", "", api.ErrNone)
	applies(t, "(1)(2)(3)", "", "(1 1)", "", api.ErrNone)
	applies(t, "(1)(2)(3)", "", "(1)(4)", "", api.ErrNone)
	applies(t, "(1)(2)(3)", "(5)", "(0)(2)", "", api.ErrNone)
	applies(t, "(1)(1 1)", "", "()", "", api.ErrNone)
}

func TestP10_1ApplyErrorsInOrder(t *testing.T) {
	applies(t, "(1)", "(1)", "(2)", "", api.ErrTwice)       // and ErrNone
	applies(t, "(2)", "(2)", "(1)", "", api.ErrTwice)       // the one that isn't there comes first
	applies(t, "(1)", "(1)", "(1)", "", api.ErrTwice)       // in both, and in the set
	applies(t, "(1)", "(2)", "(2)", "", api.ErrNone)        // in both, and not in the set
	applies(t, "(1)", "(1)(1)", "(2)", "", api.ErrRange)    // and ErrTwice, and ErrNone
	applies(t, "(1)", "(1)", "(3)(2)", "", api.ErrRange)    // and ErrTwice, and ErrNone
	applies(t, "(1)(1)", "(1)", "(2)", "", api.ErrRange)    // and ErrTwice, and ErrNone
	applies(t, "(2)(1)", "(3)", "(1)(2)", "", api.ErrRange) // and no other
	applies(t, "(1)(2)", "(4)(3)", "(1)(2)", "", api.ErrRange)
	applies(t, "(1)(2)", "(3)(4)", "(2)(1)", "", api.ErrRange)
}

func TestP10_1ApplyOfNoSet(t *testing.T) {
	for _, none := range nones() {
		applies(t, none, "", "", "", api.ErrRange)
		applies(t, "", none, "", "", api.ErrRange)
		applies(t, "", "", none, "", api.ErrRange)
		applies(t, none, "(5)", "(1)", "", api.ErrRange)
		applies(t, "(5)", none, "(5)", "", api.ErrRange)
		applies(t, "()(1)(1 1)(2)(3)", "(5)", none, "", api.ErrRange)
		applies(t, none, none, none, "", api.ErrRange)
	}
}

// follows holds Then to an answer.
func follows(t *testing.T, a, b, want api.Delta, e api.Errno) {
	t.Helper()
	if d, got := tuple.Then(a, b); got != e || !equalDeltas(d, want) {
		t.Errorf("Then(%v, %v): %v, %d, want %v, %d", a, b, d, got, want, e)
	}
}

func TestP10_1Then(t *testing.T) {
	none := api.Delta{}
	follows(t, none, none, none, api.OK)
	for _, d := range []api.Delta{delta("(1)", ""), delta("", "(1)"), delta("()", "(1)(2)"), delta("(1)(3)", "(2)(4)")} {
		follows(t, d, none, d, api.OK)
		follows(t, none, d, d, api.OK)
		follows(t, d, api.Delta{Add: d.Del, Del: d.Add}, none, api.OK) // takes back all
	}
	follows(t, delta("(1)(2)", ""), delta("", "(1)"), delta("(2)", ""), api.OK)
	follows(t, delta("(1)(2)", ""), delta("", "(2)"), delta("(1)", ""), api.OK)
	follows(t, delta("(1)", ""), delta("", "(1)(2)"), delta("", "(2)"), api.OK)
	follows(t, delta("", "(1)(2)"), delta("(1)", ""), delta("", "(2)"), api.OK)
	follows(t, delta("", "(1)"), delta("(1)(2)", ""), delta("(2)", ""), api.OK)
	follows(t, delta("(1)(2)", "(3)(4)"), delta("(3)", "(2)"), delta("(1)", "(4)"), api.OK)
	follows(t, delta("(1)(2)", "(3)(4)"), delta("(4)(6)", "(1)(5)"), delta("(2)(6)", "(3)(5)"), api.OK)
	follows(t, delta("(2)(4)", "(1)(7)"), delta("(3)(5)", "(6)(8)"), delta("(2)(3)(4)(5)", "(1)(6)(7)(8)"), api.OK)
	follows(t, delta("(3)", "(7)"), delta("(1)(2)", "(5)(6)"), delta("(1)(2)(3)", "(5)(6)(7)"), api.OK)
	follows(t, delta("(max)", "()"), delta("()", "(min)(max)"), delta("", "(min)"), api.OK)
	follows(t, delta("(1)(1 1)", "(2)"), delta("()", "(1)"), delta("()(1 1)", "(2)"), api.OK)
}

func TestP10_1ThenTwice(t *testing.T) {
	none := api.Delta{}
	follows(t, delta("(1)", ""), delta("(1)", ""), none, api.ErrTwice)
	follows(t, delta("(1)(3)", ""), delta("(2)(3)", ""), none, api.ErrTwice)
	follows(t, delta("()", ""), delta("()", ""), none, api.ErrTwice)
	follows(t, delta("", "(1)"), delta("", "(1)"), none, api.ErrTwice)
	follows(t, delta("", "(1)(3)"), delta("", "(2)(3)"), none, api.ErrTwice)
	follows(t, delta("", "()"), delta("", "()"), none, api.ErrTwice)
	follows(t, delta("(1)", "(1)"), none, none, api.ErrTwice)
	follows(t, none, delta("(1)", "(1)"), none, api.ErrTwice)
	follows(t, delta("(1)(3)", "(2)(3)"), none, none, api.ErrTwice)
	follows(t, none, delta("()(3)", "()(2)"), none, api.ErrTwice)
	follows(t, delta("(1)", "(1)"), delta("(2)", "(3)"), none, api.ErrTwice)
	follows(t, delta("(2)", "(3)"), delta("(1)", "(1)"), none, api.ErrTwice)
	follows(t, delta("(1)", "(1)"), delta("(1)", "(1)"), none, api.ErrTwice)
}

func TestP10_1ThenOfNoSet(t *testing.T) {
	for _, none := range nones() {
		for i := range 4 {
			for _, others := range []string{"", "(5)", "(1)"} { // those of (1) have it twice, too
				at := [4]string{others, others, others, others}
				at[i] = none
				follows(t, delta(at[0], at[1]), delta(at[2], at[3]), api.Delta{}, api.ErrRange)
			}
			at := [4]string{"(5)", "(6)", "(7)", "(8)"}
			at[i] = none
			follows(t, delta(at[0], at[1]), delta(at[2], at[3]), api.Delta{}, api.ErrRange)
		}
		follows(t, delta(none, none), delta(none, none), api.Delta{}, api.ErrRange)
	}
}

func TestP10_1Back(t *testing.T) {
	parts := append(nones(), "", "()", "(1)", "(1)(2)(3)", "(min)(max)")
	for _, add := range parts {
		for _, del := range parts {
			back := tuple.Back(delta(add, del))
			if !equalDeltas(back, delta(del, add)) {
				t.Errorf("Back of Add %s Del %s: %v", add, del, back)
			}
			if twice := tuple.Back(back); !equalDeltas(twice, delta(add, del)) {
				t.Errorf("Back twice of Add %s Del %s: %v", add, del, twice)
			}
		}
	}
}

func TestP10_1Empty(t *testing.T) {
	if !tuple.Empty(api.Delta{}) || !tuple.Empty(api.Delta{Add: []api.Tuple{}, Del: []api.Tuple{}}) || !tuple.Empty(api.Delta{Add: make([]api.Tuple, 0, 5)}) {
		t.Error("of none")
	}
	for _, s := range append(nones(), "()", "(1)", "(0)", "(1)(2)") {
		if tuple.Empty(delta(s, "")) || tuple.Empty(delta("", s)) || tuple.Empty(delta(s, s)) {
			t.Errorf("of %s", s)
		}
	}
	if tuple.Empty(api.Delta{Add: []api.Tuple{nil}}) || tuple.Empty(api.Delta{Del: []api.Tuple{nil}}) {
		t.Error("of a tuple of none")
	}
}

func TestP10_1AllLists(t *testing.T) {
	for _, l := range lists(6, few()) {
		holdsList(t, l)
		for _, u := range append(few(), nil, api.Tuple{1, 0}) {
			holdsHas(t, l, u)
		}
	}
}

func TestP10_1AllDiffs(t *testing.T) {
	all := lists(3, few())
	for _, from := range all {
		for _, to := range all {
			holdsDiff(t, from, to)
		}
	}
}

func TestP10_1AllApplies(t *testing.T) {
	all := append(lists(2, few()), sets(few())...)
	for _, s := range all {
		for _, add := range all {
			for _, del := range all {
				holdsApply(t, s, api.Delta{Add: add, Del: del})
			}
		}
	}
}

// allDeltas has those of each two of the lists.
func allDeltas(of [][]api.Tuple) []api.Delta {
	var out []api.Delta
	for _, add := range of {
		for _, del := range of {
			out = append(out, api.Delta{Add: add, Del: del})
		}
	}
	return out
}

func TestP10_1AllThens(t *testing.T) {
	for _, of := range [][][]api.Tuple{sets(few()), lists(2, few()[:3])} {
		all := allDeltas(of)
		for _, a := range all {
			for _, b := range all {
				holdsThen(t, a, b)
			}
		}
	}
}

func TestP10_1Drawn(t *testing.T) {
	r := rand.New(rand.NewSource(1002))
	for range 1000 {
		l := anyList(r, 40)
		holdsList(t, l)
		holdsHas(t, l, anyTuple(r))
		s := setOf(l)
		holdsList(t, s)
		holdsHas(t, s, anyTuple(r))
		holdsDiff(t, s, near(r, s))
		holdsDiff(t, s, anySet(r, 40))
		holdsApply(t, s, api.Delta{Add: less(anySet(r, 20), s), Del: someOf(r, s)})
		holdsApply(t, s, api.Delta{Add: anySet(r, 2), Del: someOf(r, s)})
		holdsApply(t, s, api.Delta{Add: less(anySet(r, 20), s), Del: anySet(r, 2)})
		a, b := api.Delta{Add: anySet(r, 9), Del: anySet(r, 9)}, api.Delta{Add: anySet(r, 9), Del: anySet(r, 9)}
		holdsThen(t, a, b)
		a.Del = less(a.Del, a.Add)
		b.Add, b.Del = less(setOf(b.Add, someOf(r, a.Del)), a.Add), less(setOf(b.Del, someOf(r, a.Add)), a.Del)
		holdsThen(t, a, b)
		b.Del = less(b.Del, b.Add)
		holdsThen(t, a, b)
	}
}

func TestP10_1DrawnOfNoSet(t *testing.T) {
	r := rand.New(rand.NewSource(1003))
	for range 20000 {
		holdsDiff(t, anyList(r, 4), anyList(r, 4))
		holdsApply(t, anyList(r, 3), api.Delta{Add: anyList(r, 3), Del: anyList(r, 3)})
		holdsThen(t, api.Delta{Add: anyList(r, 3), Del: anyList(r, 3)}, api.Delta{Add: anyList(r, 3), Del: anyList(r, 3)})
	}
}

func TestP10_1Many(t *testing.T) {
	const n = 3 * api.MaxTuples
	even, odd, all := rising(n, 0, 2), rising(n, 1, 2), rising(2*n, 0, 1)
	mixed := append(append(slices.Clone(odd), even...), odd...)
	slices.Reverse(mixed)
	if !equal(tuple.Set(mixed), all) || tuple.Rises(mixed) || !tuple.Rises(all) || !tuple.Has(all, all[2*n-1]) || tuple.Has(even, odd[n-1]) {
		t.Error("lists of many")
	}
	if d, e := tuple.Diff(even, all); e != api.OK || !equalDeltas(d, api.Delta{Add: odd}) {
		t.Errorf("Diff: %d and %d, %d", len(d.Add), len(d.Del), e)
	}
	if l, e := tuple.Apply(even, api.Delta{Add: odd, Del: even}); e != api.OK || !equal(l, odd) {
		t.Errorf("Apply: %d, %d", len(l), e)
	}
	if l, e := tuple.Apply(even, api.Delta{Add: odd}); e != api.OK || !equal(l, all) {
		t.Errorf("Apply: %d, %d", len(l), e)
	}
	if d, e := tuple.Then(api.Delta{Add: even}, api.Delta{Add: odd}); e != api.OK || !equalDeltas(d, api.Delta{Add: all}) {
		t.Errorf("Then: %d and %d, %d", len(d.Add), len(d.Del), e)
	}
}
