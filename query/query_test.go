package query_test

import (
	"math/rand"
	"slices"
	"strings"
	"testing"
	"unsafe"

	"rhizome/api"
	"rhizome/query"
	"rhizome/words"
)

// is holds Parse to a view, and to what is told.
func is(t *testing.T, text string, want api.View) {
	t.Helper()
	if got := check(t, text); !got.is(parsed{view: want}) {
		t.Errorf("Parse(%q): %v, want %v", text, got, want)
	}
}

// refused holds Parse to an error and its place, and to what is told.
func refused(t *testing.T, text string, e api.Errno, line, col int) {
	t.Helper()
	if got := check(t, text); !got.is(parsed{line: line, col: col, e: e}) {
		t.Errorf("Parse(%q): %v, want %d at %d, %d", text, got, e, line, col)
	}
}

// names are n of them, rising.
func names(n int) []string {
	var out []string
	for i := range n {
		out = append(out, string(rune('a'+i)))
	}
	return out
}

// atoms are n of them, whose variables are names(n + 1).
func atoms(n int) []api.Atom {
	l := names(n + 1)
	var out []api.Atom
	for i := range n {
		out = append(out, api.Atom{From: l[i], Label: "k", To: l[i+1]})
	}
	return out
}

// pattern is one of so many outputs and atoms.
func pattern(out, of int) api.View {
	return api.View{Name: "f", Kind: api.KPattern, Out: names(out), Atoms: atoms(of)}
}

func TestP9_1Examples(t *testing.T) {
	is(t, "view f(x, y) = k(x, z), k(z, y);", api.View{Name: "f", Kind: api.KPattern, Out: []string{"x", "y"}, Atoms: []api.Atom{{From: "x", Label: "k", To: "z"}, {From: "z", Label: "k", To: "y"}}})
	is(t, "view r = reach k;", api.View{Name: "r", Kind: api.KReach, Label: "k"})
	refused(t, "view f(x) = k(y, z);", api.ErrBound, 1, 8)
	refused(t, "view f(x, x) = k(x, x);", api.ErrTwice, 1, 11)
}

func TestP9_1ParsePatterns(t *testing.T) {
	is(t, "view f(x)=k(x,y);", api.View{Name: "f", Kind: api.KPattern, Out: []string{"x"}, Atoms: []api.Atom{{From: "x", Label: "k", To: "y"}}})
	is(t, "view f(y)=k(x,y);", api.View{Name: "f", Kind: api.KPattern, Out: []string{"y"}, Atoms: []api.Atom{{From: "x", Label: "k", To: "y"}}})
	is(t, "view f(x)=k(x,x);", api.View{Name: "f", Kind: api.KPattern, Out: []string{"x"}, Atoms: []api.Atom{{From: "x", Label: "k", To: "x"}}})
	is(t, "view f(x)=k(x,y),k(x,y);", api.View{Name: "f", Kind: api.KPattern, Out: []string{"x"}, Atoms: []api.Atom{{From: "x", Label: "k", To: "y"}, {From: "x", Label: "k", To: "y"}}})
	is(t, "view f(z,x) ← k(x∧y) ∧ q(y∧z) ;", api.View{Name: "f", Kind: api.KPattern, Out: []string{"z", "x"}, Atoms: []api.Atom{{From: "x", Label: "k", To: "y"}, {From: "y", Label: "q", To: "z"}}})
	is(t, "#\nview# f\nf# (\n(x#)\n)\n=\nk(x,\u3000y)\u00a0; # ;", api.View{Name: "f", Kind: api.KPattern, Out: []string{"x"}, Atoms: []api.Atom{{From: "x", Label: "k", To: "y"}}})
	for of := 1; of <= api.MaxAtoms; of++ {
		for out := 1; out <= min(of+1, api.MaxOut); out++ {
			is(t, toldText(pattern(out, of)), pattern(out, of))
		}
	}
}

func TestP9_1ParseReaches(t *testing.T) {
	is(t, "view reach = reach reach;", api.View{Name: "reach", Kind: api.KReach, Label: "reach"})
	is(t, "view view = reach view;", api.View{Name: "view", Kind: api.KReach, Label: "view"})
	is(t, "view a\u2190reach b;", api.View{Name: "a", Kind: api.KReach, Label: "b"})
	refused(t, "view r = k;", api.ErrSyntax, 1, 10)
	refused(t, "view r = reach;", api.ErrSyntax, 1, 15)
	refused(t, "view r = k(x, y);", api.ErrSyntax, 1, 10)
	refused(t, "view r = reach(x, y);", api.ErrSyntax, 1, 15)
	refused(t, "view r = reach k(x, y);", api.ErrSyntax, 1, 17)
	refused(t, "view r = reach k, reach k;", api.ErrSyntax, 1, 17)
	refused(t, "view r reach k;", api.ErrSyntax, 1, 8)
	refused(t, "view r, = reach k;", api.ErrSyntax, 1, 7)
	refused(t, "view r(x) = reach k;", api.ErrSyntax, 1, 19)
}

func TestP9_1ParseViewAndReachAsNames(t *testing.T) {
	is(t, "view view(view) = view(view, view);", api.View{Name: "view", Kind: api.KPattern, Out: []string{"view"}, Atoms: []api.Atom{{From: "view", Label: "view", To: "view"}}})
	is(t, "view reach(reach) = reach(reach, reach);", api.View{Name: "reach", Kind: api.KPattern, Out: []string{"reach"}, Atoms: []api.Atom{{From: "reach", Label: "reach", To: "reach"}}})
	is(t, "view f(reach, view) = reach(view, reach);", api.View{Name: "f", Kind: api.KPattern, Out: []string{"reach", "view"}, Atoms: []api.Atom{{From: "view", Label: "reach", To: "reach"}}})
	refused(t, "reach r = reach k;", api.ErrSyntax, 1, 1)
	refused(t, "views r = reach k;", api.ErrSyntax, 1, 1)
	refused(t, "vie w r = reach k;", api.ErrSyntax, 1, 1)
	refused(t, "view r = reaches k;", api.ErrSyntax, 1, 10)
	refused(t, "view r = view k;", api.ErrSyntax, 1, 10)
}

func TestP9_1ParseLongNames(t *testing.T) {
	for n := 1; n <= 20; n++ {
		s := strings.Repeat("z", n)
		for _, text := range []string{"view %(x) = k(x, y);", "view f(%) = k(x, %);", "view f(%) = k(%, x);", "view f(x) = %(x, y);", "view % = reach k;", "view f = reach %;"} {
			at := strings.Index(text, "%") + 1
			text = strings.ReplaceAll(text, "%", s)
			if n > api.MaxName {
				refused(t, text, api.ErrWord, 1, at)
				continue
			}
			if got := check(t, text); got.e != api.OK {
				t.Errorf("%q: %v", text, got)
			}
		}
	}
}

func TestP9_1ParseTwice(t *testing.T) {
	refused(t, "view f(x,x) = k(x, y);", api.ErrTwice, 1, 10)
	refused(t, "view f(x,y,x) = k(x, y);", api.ErrTwice, 1, 12)
	refused(t, "view f(x,y,y,x) = k(x, y);", api.ErrTwice, 1, 12)
	refused(t, "view f(a,b,c,d,e,\na) = k(x, y);", api.ErrTwice, 2, 1)
	refused(t, "view f(q,q) = k(x, y);", api.ErrTwice, 1, 10) // no variable either
	refused(t, "view f(a,q,q) = k(x, y);", api.ErrTwice, 1, 12)
	refused(t, "view f(view,view) = k(x, y);", api.ErrTwice, 1, 13)
	if got := check(t, "view f(x,xx) = k(x, xx);"); got.e != api.OK {
		t.Error(got)
	}
	if got := check(t, "view x(x) = x(x, x);"); got.e != api.OK { // a Name and a label are no outputs
		t.Error(got)
	}
}

func TestP9_1ParseLong(t *testing.T) {
	refused(t, toldText(pattern(7, 8)), api.ErrLong, 1, 26)
	refused(t, toldText(pattern(1, 9)), api.ErrLong, 1, 85)
	refused(t, toldText(pattern(7, 9)), api.ErrLong, 1, 26)
	refused(t, toldText(pattern(9, 12)), api.ErrLong, 1, 26)
	refused(t, toldText(pattern(2, 12)), api.ErrLong, 1, 88)
	refused(t, "view f(a,b,c,d,e,f,g", api.ErrLong, 1, 20)
	refused(t, "view f(a,b,c,d,e,f,a) = k(a,b);", api.ErrLong, 1, 20) // came already
	refused(t, "view f(a,b,c,d,e,f,f", api.ErrLong, 1, 20)
	refused(t, "view f(a,b,c,d,e,e,f) = k(a,b);", api.ErrTwice, 1, 18)
	refused(t, "view f(a,b,c,d,e,f,) = k(a,b);", api.ErrSyntax, 1, 20)
	refused(t, "view f(a,b,c,d,e,f,", api.ErrSyntax, 1, 20)
	eight := "view f(a)=" + strings.Repeat("k(a,b),", 7) + "k(a,b)"
	if got := check(t, eight+";"); got.e != api.OK {
		t.Error(got)
	}
	refused(t, eight+",k(a,b);", api.ErrLong, 1, 67)
	refused(t, eight+",k", api.ErrLong, 1, 67)
	refused(t, eight+",k a", api.ErrLong, 1, 67)
	refused(t, eight+",(a,b);", api.ErrSyntax, 1, 67)
	refused(t, eight+",", api.ErrSyntax, 1, 67)
	refused(t, eight+" k", api.ErrSyntax, 1, 67)
}

func TestP9_1ParseBound(t *testing.T) {
	refused(t, "view f(x) = x(y, z);", api.ErrBound, 1, 8) // a label is no variable
	refused(t, "view f(f) = k(y, z);", api.ErrBound, 1, 8)
	refused(t, "view f(y, q, z) = k(y, z);", api.ErrBound, 1, 11)
	refused(t, "view f(y, q, r) = k(y, z);", api.ErrBound, 1, 11)
	refused(t, "view f(y,\n z, r) = k(y, z);", api.ErrBound, 2, 5)
	refused(t, "view f(a,b,c,d,e,g) = k(a,b),k(c,d),k(e,f);", api.ErrBound, 1, 18)
	refused(t, "view f(yy) = k(y, y);", api.ErrBound, 1, 8)
	refused(t, "view f(y) = k(yy, yy);", api.ErrBound, 1, 8)
	if got := check(t, "view f(q) = k(y, z), k(z, q);"); got.e != api.OK {
		t.Error(got)
	}
}

func TestP9_1ParseSeveralFaults(t *testing.T) {
	refused(t, "view f(x, x) = k(x x);", api.ErrTwice, 1, 11)
	refused(t, "view f(x x, x) = k(x, x);", api.ErrSyntax, 1, 10)
	refused(t, "view f(x, x = k(x, x);", api.ErrTwice, 1, 11)
	refused(t, "view f(x, y = k(x, x);", api.ErrSyntax, 1, 13)
	refused(t, "view f(q) = k(x, y)", api.ErrSyntax, 1, 20)
	refused(t, "view f(q) = k(x, y); ;", api.ErrSyntax, 1, 22)
	refused(t, "view f(q) = "+strings.Repeat("k(x,y),", 8)+"k(x,y);", api.ErrLong, 1, 69)
	refused(t, "view f(x, x) = "+strings.Repeat("k(x,y),", 8)+"k(x,y);", api.ErrTwice, 1, 11)
	refused(t, "view f(a,b,c,d,e,f,g) = k(a,b", api.ErrLong, 1, 20)
	refused(t, "view f(a,b,c,d,e,f g) = k(a,b", api.ErrSyntax, 1, 20)
	refused(t, "view f(x, x) = k(x, x); !", api.ErrWord, 1, 25)
	refused(t, "view f(x, x) = k(x, x); \n\xff", api.ErrText, 2, 1)
	refused(t, "view f(x, x) = abcdefghijklmnopq(x, x);", api.ErrWord, 1, 16)
	refused(t, ") view é", api.ErrWord, 1, 8)
	refused(t, "; view f(x, x)", api.ErrSyntax, 1, 1)
}

func TestP9_1ParseWordsFaults(t *testing.T) {
	refused(t, "view r = reach k; é", api.ErrWord, 1, 19)
	refused(t, "view r = reach K;", api.ErrWord, 1, 16)
	refused(t, "view r = reach k:\n", api.ErrWord, 1, 17)
	refused(t, "# é\nview r\u2190\u3000reach é;", api.ErrWord, 2, 15)
	refused(t, "view r = reach k;#\xff", api.ErrText, 1, 19)
	refused(t, "view r = reach k;\xc3", api.ErrText, 1, 18)
	refused(t, "\xed\xa0\x80", api.ErrText, 1, 1)
	refused(t, "\xff! view", api.ErrText, 1, 1)
	refused(t, "! view \xff", api.ErrText, 1, 8)
}

func TestP9_1ParseBehindTheText(t *testing.T) {
	for text, at := range map[string][2]int{
		"":                          {1, 1},
		" ":                         {1, 2},
		"\n":                        {2, 1},
		"\r\n\t":                    {2, 2},
		"#":                         {1, 2},
		"# view r = reach k;":       {1, 20},
		"# view r = reach k;\n":     {2, 1},
		"# é\u2190\U0001f600":       {1, 6},
		"\u3000\u00a0":              {1, 3},
		"view":                      {1, 5},
		"view ":                     {1, 6},
		"view\n\n":                  {3, 1},
		"view # é\n ":               {2, 2},
		"view r \u2190":             {1, 9},
		"view r \u2190 reach\u3000": {1, 16},
		"view r = reach k":          {1, 17},
		"view r = reach k # ;":      {1, 21},
		"view f(x\u2227y":           {1, 11},
		"view f(x)\u2190k(x\u2227y)\u2227# \u2190\nk(x,\n": {3, 1},
	} {
		refused(t, text, api.ErrSyntax, at[0], at[1])
	}
}

// samples are definitions, word by word.
var samples = []string{
	"view f ( x ) = k ( x , y ) ;",
	"view f ( x , y ) = k ( x , z ) , k ( z , y ) ;",
	"view r = reach k ;",
	"view view ( reach , view ) = reach ( view , reach ) , view ( x , view ) ;",
	"view reach = reach view ;",
	"view f ( a , b , c , d , e , f ) = k ( a , b ) , k ( c , d ) , k ( e , f ) , k ( a , b ) , k ( a , b ) , k ( a , b ) , k ( a , b ) , q ( g , h ) ;",
}

// all are words of each kind.
var all = []string{"view", "reach", "x", "q", "(", ")", ",", "=", ";"}

func TestP9_1ParseEachWordsEnd(t *testing.T) {
	for _, text := range samples {
		for i := range len(text) {
			if text[i] != ' ' {
				continue
			}
			refused(t, text[:i], api.ErrSyntax, 1, i+1)
			refused(t, text[:i+1], api.ErrSyntax, 1, i+2)
			refused(t, text[:i]+" # ;\n", api.ErrSyntax, 2, 1)
		}
		if got := check(t, text); got.e != api.OK {
			t.Errorf("%q: %v", text, got)
		}
	}
}

func TestP9_1ParseAWordTooMany(t *testing.T) {
	for _, text := range samples {
		for _, w := range all {
			refused(t, text+w, api.ErrSyntax, 1, len(text)+1)
			refused(t, text+" "+w+" "+w, api.ErrSyntax, 1, len(text)+2)
		}
		refused(t, text+text, api.ErrSyntax, 1, len(text)+1)
	}
}

// TestP9_1ParseEachWordElsewhere has each word in place of, ahead of, and behind each other one, and away.
func TestP9_1ParseEachWordElsewhere(t *testing.T) {
	for _, text := range samples {
		l := strings.Fields(text)
		for i := range l {
			check(t, strings.Join(slices.Delete(slices.Clone(l), i, i+1), " "))
			for _, w := range append(slices.Clone(all), l...) {
				one := slices.Clone(l)
				one[i] = w
				check(t, strings.Join(one, " "))
				check(t, strings.Join(slices.Insert(slices.Clone(l), i, w), " "))
			}
		}
	}
}

func TestP9_1ParseWordsInPlaceOfOthers(t *testing.T) {
	text := "view f ( x ) = k ( x , y ) ;"
	l := strings.Fields(text)
	col := 1
	for i := range l {
		for _, w := range all {
			one := slices.Clone(l)
			one[i] = w
			isName := func(s string) bool { return s[0] >= 'a' }
			switch {
			case w == l[i] || i > 0 && isName(w) && isName(l[i]):
				continue
			case i == 2 && w == "=": // the word behind is told: no reach
				refused(t, strings.Join(one, " "), api.ErrSyntax, 1, col+2)
			case i == 4 && w == ",": // an output is wanted behind
				refused(t, strings.Join(one, " "), api.ErrSyntax, 1, col+2)
			case i == 12 && w == ",": // an atom is
				refused(t, strings.Join(one, " "), api.ErrSyntax, 1, col+1)
			default:
				refused(t, strings.Join(one, " "), api.ErrSyntax, 1, col)
			}
		}
		col += len(l[i]) + 1
	}
}

// TestP9_1ParseShortTexts has all texts of up to five words.
func TestP9_1ParseShortTexts(t *testing.T) {
	var goOn func(l []string)
	goOn = func(l []string) {
		check(t, strings.Join(l, " "))
		if len(l) == 5 {
			return
		}
		for _, w := range all {
			goOn(append(l[:len(l):len(l)], w))
		}
	}
	goOn(nil)
}

func TestP9_1ParseRandomFaults(t *testing.T) {
	r := rand.New(rand.NewSource(9))
	for range 6000 {
		l := wordsOf(randomView(r))
		for range r.Intn(4) {
			i := r.Intn(len(l))
			switch w := all[r.Intn(len(all))]; r.Intn(4) {
			case 0:
				l[i] = w
			case 1:
				l = slices.Insert(l, i, w)
			case 2:
				l = l[:i+1]
			default:
				l[i] = l[r.Intn(len(l))]
			}
		}
		check(t, laid(r, l))
	}
}

// TestP9_1ParseRandomLists has lists that are often too long, or name an output twice.
func TestP9_1ParseRandomLists(t *testing.T) {
	r := rand.New(rand.NewSource(91))
	for range 6000 {
		v := api.View{Name: "f", Kind: api.KPattern}
		for range 1 + r.Intn(9) {
			v.Out = append(v.Out, names(14)[r.Intn(14)])
		}
		for range 1 + r.Intn(11) {
			v.Atoms = append(v.Atoms, api.Atom{From: names(14)[r.Intn(14)], Label: "k", To: names(14)[r.Intn(14)]})
		}
		l := wordsOf(v)
		if r.Intn(3) == 0 {
			l[r.Intn(len(l))] = all[r.Intn(len(all))]
		}
		check(t, laid(r, l))
	}
}

func TestP9_1ParseLongTexts(t *testing.T) {
	text := "view r = reach k;"
	want := api.View{Name: "r", Kind: api.KReach, Label: "k"}
	is(t, text+strings.Repeat(" ", api.MaxSource-len(text)), want)
	is(t, strings.Repeat("\n", api.MaxSource-len(text))+text, want)
	is(t, text+"#"+strings.Repeat("é", (api.MaxSource-len(text)-1)/2), want)
	refused(t, text+strings.Repeat(" ", api.MaxSource-len(text)+1), api.ErrLong, 0, 0)
	refused(t, strings.Repeat(" ", api.MaxSource), api.ErrSyntax, 1, 1025)
	refused(t, strings.Repeat(" ", api.MaxSource+1), api.ErrLong, 0, 0)
	refused(t, strings.Repeat("\xff", api.MaxSource+1), api.ErrLong, 0, 0)
	refused(t, strings.Repeat("(", api.MaxSource+1), api.ErrLong, 0, 0)
	refused(t, strings.Repeat("(", api.MaxSource), api.ErrSyntax, 1, 1)
	refused(t, "view f(a,"+strings.Repeat("a,", 500), api.ErrTwice, 1, 10)
	refused(t, "view f(x)="+strings.Repeat("k(x,x),", 140), api.ErrLong, 1, 67)
}

func TestP9_1CheckKinds(t *testing.T) {
	for _, kind := range []int{-1 << 63, -2, -1, 0, 3, 4, 257, 258, 1 << 32, 1<<32 + 1, 1<<63 - 1} {
		v := pattern(1, 1)
		v.Kind = kind
		checkView(t, v)
		checkView(t, api.View{Name: "r", Kind: kind, Label: "k"})
		if query.Check(v) != api.ErrRange || query.Check(api.View{Name: "r", Kind: kind, Label: "k"}) != api.ErrRange {
			t.Errorf("Kind %d", kind)
		}
	}
	if e := query.Check(api.View{}); e != api.ErrRange {
		t.Errorf("the zero view: %d", e)
	}
}

// checked holds Check and Show to whether v is a view, and to what is told.
func checked(t *testing.T, v api.View, want api.Errno) {
	t.Helper()
	checkView(t, v)
	s, shown := query.Show(v)
	if got := query.Check(v); got != want || shown != want || (s == "") != (want != api.OK) {
		t.Errorf("%v: %d, %d, %q, want %d", v, got, shown, s, want)
	}
}

func TestP9_1CheckPatterns(t *testing.T) {
	for of := range 12 {
		for out := range 10 {
			want := api.ErrRange
			if out >= 1 && out <= api.MaxOut && of >= 1 && of <= api.MaxAtoms && out <= of+1 {
				want = api.OK
			}
			checked(t, pattern(out, of), want)
		}
	}
	for _, label := range []string{"k", "a", "reach", "", "A", " "} {
		v := pattern(2, 2)
		v.Label = label
		checked(t, v, map[bool]api.Errno{true: api.OK, false: api.ErrRange}[label == ""])
	}
	for _, l := range [][]string{{"a", "a"}, {"a", "b", "a"}, {"b", "a", "a"}, {"q"}, {"a", "q"}, {"q", "a"}, {"k"}, {"f"}, {"a", ""}} {
		v := pattern(1, 3)
		v.Out = l
		checked(t, v, api.ErrRange)
	}
	v := pattern(1, 1)
	v.Atoms[0].To = "a" // one variable
	checked(t, v, api.OK)
	v.Atoms = append(v.Atoms, v.Atoms[0]) // the same atom twice
	checked(t, v, api.OK)
}

func TestP9_1CheckReaches(t *testing.T) {
	v := api.View{Name: "r", Kind: api.KReach, Label: "k"}
	checked(t, v, api.OK)
	v.Out, v.Atoms = []string{}, []api.Atom{}
	checked(t, v, api.OK)
	v.Out = []string{"x"}
	checked(t, v, api.ErrRange)
	v.Atoms = []api.Atom{{From: "x", Label: "k", To: "x"}}
	checked(t, v, api.ErrRange)
	v.Out = nil
	checked(t, v, api.ErrRange)
	v.Atoms, v.Label = nil, ""
	checked(t, v, api.ErrRange)
	checked(t, api.View{Name: "r", Kind: api.KReach, Out: []string{""}, Label: "k"}, api.ErrRange)
	checked(t, api.View{Name: "r", Kind: api.KReach, Atoms: make([]api.Atom, 1), Label: "k"}, api.ErrRange)
}

// placed are views that have a name at each place where one may be.
func placed(s string) []api.View {
	xy := api.Atom{From: "x", Label: "k", To: "y"}
	last := []api.Atom{xy, xy, xy, xy, xy, xy, xy}
	return []api.View{
		{Name: s, Kind: api.KPattern, Out: []string{"x"}, Atoms: []api.Atom{xy}},
		{Name: "f", Kind: api.KPattern, Out: []string{s}, Atoms: []api.Atom{{From: s, Label: "k", To: "y"}}},
		{Name: "f", Kind: api.KPattern, Out: []string{s}, Atoms: []api.Atom{{From: "y", Label: "k", To: s}}},
		{Name: "f", Kind: api.KPattern, Out: []string{"other", s}, Atoms: []api.Atom{{From: "other", Label: "k", To: "y"}, {From: s, Label: "k", To: s}}},
		{Name: "f", Kind: api.KPattern, Out: []string{"y"}, Atoms: []api.Atom{{From: s, Label: "k", To: "y"}}},
		{Name: "f", Kind: api.KPattern, Out: []string{"x"}, Atoms: []api.Atom{{From: "x", Label: "k", To: s}}},
		{Name: "f", Kind: api.KPattern, Out: []string{"x"}, Atoms: []api.Atom{{From: "x", Label: s, To: "y"}}},
		{Name: "f", Kind: api.KPattern, Out: []string{"x"}, Atoms: append(last, api.Atom{From: "x", Label: s, To: "y"})},
		{Name: "f", Kind: api.KPattern, Out: []string{"x"}, Atoms: append(last, api.Atom{From: s, Label: "k", To: "y"})},
		{Name: "f", Kind: api.KPattern, Out: []string{"x"}, Atoms: append(last, api.Atom{From: "x", Label: "k", To: s})},
		{Name: s, Kind: api.KReach, Label: "k"},
		{Name: "f", Kind: api.KReach, Label: s},
	}
}

func TestP9_1CheckNames(t *testing.T) {
	hold := func(s string, want api.Errno) {
		t.Helper()
		for _, v := range placed(s) {
			checked(t, v, want)
		}
	}
	for n := range 40 {
		hold(strings.Repeat("q", n), map[bool]api.Errno{true: api.OK, false: api.ErrRange}[n >= 1 && n <= api.MaxName])
	}
	for c := range 256 {
		want := api.ErrRange
		if 'a' <= c && c <= 'z' {
			want = api.OK
		}
		for _, ahead := range []string{"", "a", "abcdefghijklmno"} {
			hold(ahead+string([]byte{byte(c)}), want)
			hold(string([]byte{byte(c)})+ahead, want)
		}
		hold("ab"+string([]byte{byte(c)})+"cd", want)
	}
	for _, s := range []string{"é", "a\u0301", "ａ", "a b", "a\n", " a", "view ", "abcdefghijklmnoé", "x,y", "k;", "\xff"} {
		hold(s, api.ErrRange)
	}
	hold("view", api.OK)
	hold("reach", api.OK)
}

func TestP9_1CheckManyFaults(t *testing.T) {
	r := rand.New(rand.NewSource(92))
	odd := []string{"", "a", "A", "abcdefghijklmnopq", "é", "x", "y"}
	for range 20000 {
		v := randomView(r)
		for range r.Intn(3) {
			s := odd[r.Intn(len(odd))]
			switch r.Intn(7) {
			case 0:
				v.Name = s
			case 1:
				v.Label = s
			case 2:
				v.Kind = r.Intn(5) - 1
			case 3:
				v.Out = append(v.Out, s)
			case 4:
				v.Atoms = append(v.Atoms, api.Atom{From: s, Label: "k", To: "x"})
			case 5:
				v.Out = nil
			default:
				v.Atoms = nil
			}
		}
		checkView(t, v)
	}
}

func TestP9_1Show(t *testing.T) {
	for _, text := range []string{
		"view f(x, y) = k(x, z), k(z, y);",
		"view f(x) = k(x, x);",
		"view r = reach k;",
		"view view(reach) = view(view, reach), view(view, reach);",
		toldText(pattern(6, 8)),
	} {
		if s, e := query.Show(check(t, text).view); s != text || e != api.OK {
			t.Errorf("%q is shown as %q, %d", text, s, e)
		}
	}
	if s, e := query.Show(check(t, "#\nview f(x∧y)←k(x,z)∧k(z,y);#;").view); s != "view f(x, y) = k(x, z), k(z, y);" || e != api.OK {
		t.Errorf("%q, %d", s, e)
	}
	if s, e := query.Show(api.View{}); s != "" || e != api.ErrRange {
		t.Errorf("the zero view: %q, %d", s, e)
	}
}

func TestP9_1Vars(t *testing.T) {
	for text, want := range map[string]string{
		"view f(x, y) = k(x, z), k(z, y);":             "x z y",
		"view f(y) = k(x, y);":                         "x y",
		"view f(x) = k(x, x);":                         "x",
		"view f(a) = k(c, b), k(b, a), k(a, c);":       "c b a",
		"view f(a) = k(c, b), k(c, b), k(d, a);":       "c b d a",
		"view f(x) = x(z, x), z(x, y), f(k, w);":       "z x y k w",
		"view f(view) = reach(view, reach), v(v, vv);": "view reach v vv",
		"view r = reach k;":                            "",
	} {
		if got := strings.Join(query.Vars(check(t, text).view), " "); got != want {
			t.Errorf("Vars of %q: %s, want %s", text, got, want)
		}
	}
	sixteen := pattern(1, 8)
	for i := range sixteen.Atoms {
		sixteen.Atoms[i].From += "a"
		sixteen.Atoms[i].To += "b"
	}
	if got := query.Vars(sixteen); len(got) != 16 || got[0] != "aa" || got[15] != "ib" {
		t.Errorf("%v", got)
	}
	if got := query.Vars(api.View{}); len(got) != 0 {
		t.Errorf("of none: %v", got)
	}
}

func TestP9_2RandomViews(t *testing.T) {
	r := rand.New(rand.NewSource(93))
	for range 10000 {
		v := randomView(r)
		checked(t, v, api.OK)
		is(t, laid(r, wordsOf(v)), v)
	}
}

func TestP9_2TheLongest(t *testing.T) {
	long := func(c string) string { return c + strings.Repeat("z", api.MaxName-1) }
	v := api.View{Name: long("v"), Kind: api.KPattern}
	for i := range api.MaxAtoms {
		v.Atoms = append(v.Atoms, api.Atom{From: long(names(9)[i]), Label: long("k"), To: long(names(9)[i+1])})
	}
	for i := range api.MaxOut {
		v.Out = append(v.Out, long(names(9)[i]))
	}
	checked(t, v, api.OK)
	is(t, toldText(v), v)
	checked(t, api.View{Name: long("v"), Kind: api.KReach, Label: long("k")}, api.OK)
}

// TestP9_2WhatIsParsed holds what is parsed to be a view, of texts of any words.
func TestP9_2WhatIsParsed(t *testing.T) {
	r := rand.New(rand.NewSource(94))
	parsedViews := 0
	for range 20000 {
		l := wordsOf(randomView(r))
		if i := r.Intn(len(l)); r.Intn(2) == 0 {
			l[i] = all[r.Intn(len(all))]
		}
		v, line, col, e := query.Parse(laid(r, l))
		if e != api.OK {
			if !same(v, api.View{}) || line < 1 || col < 1 {
				t.Fatalf("%v, %d, %d, %d", v, line, col, e)
			}
			continue
		}
		parsedViews++
		if e := query.Check(v); e != api.OK || line != 0 || col != 0 {
			t.Fatalf("%v: %d, %d, %d", v, e, line, col)
		}
	}
	if parsedViews < 5000 {
		t.Errorf("%d", parsedViews)
	}
}

// spoil changes all of a list of texts, spare room too.
func spoil(l []string) {
	l = l[:cap(l)]
	for i := range l {
		l[i] = "spoilt"
	}
}

func spoilAtoms(l []api.Atom) {
	l = l[:cap(l)]
	for i := range l {
		l[i] = api.Atom{From: "spoilt", Label: "spoilt", To: "spoilt"}
	}
}

func TestP9_3WhatIsParsedMayBeChanged(t *testing.T) {
	text := toldText(pattern(3, 5))
	a, b := parse(text).view, parse(text).view
	spoil(a.Out)
	if !slices.Equal(a.Atoms, atoms(5)) {
		t.Errorf("its atoms: %v", a.Atoms)
	}
	spoilAtoms(a.Atoms)
	if !same(b, pattern(3, 5)) || !same(parse(text).view, pattern(3, 5)) {
		t.Errorf("%v, %v", b, parse(text).view)
	}
}

func TestP9_3VarsMayBeChanged(t *testing.T) {
	v := pattern(3, 5)
	a, b := query.Vars(v), query.Vars(v)
	spoil(a)
	if !same(v, pattern(3, 5)) || !slices.Equal(b, names(6)) || !slices.Equal(query.Vars(v), names(6)) {
		t.Errorf("%v, %v", v, b)
	}
}

// roomy is v with spare room in its lists, that is as it is handed in.
func roomy(v api.View) api.View {
	out := append(slices.Clone(v.Out), "spare", "room")
	of := append(slices.Clone(v.Atoms), api.Atom{From: "spare"}, api.Atom{To: "room"})
	v.Out, v.Atoms = out[:len(v.Out)], of[:len(v.Atoms)]
	return v
}

func TestP9_3WhatIsHandedInStays(t *testing.T) {
	for _, good := range []api.View{pattern(3, 5), pattern(3, 1), pattern(7, 9), {Name: "r", Kind: api.KReach, Label: "k"}} {
		v := roomy(good)
		query.Check(v)
		query.Show(v)
		query.Vars(v)
		out, of := v.Out[:cap(v.Out)], v.Atoms[:cap(v.Atoms)]
		n, m := len(v.Out), len(v.Atoms)
		if !same(v, good) || !slices.Equal(out[n:n+2], []string{"spare", "room"}) || !slices.Equal(of[m:m+2], []api.Atom{{From: "spare"}, {To: "room"}}) {
			t.Errorf("%v, %v, %v", v, out, of)
		}
	}
}

// lent is a text whose bytes the test changes later.
func lent(s string) (string, []byte) {
	b := []byte(s)
	return unsafe.String(&b[0], len(b)), b
}

func TestP9_3NoTextIsShared(t *testing.T) {
	text, b := lent("view first(second) = third(second, fourth);")
	got := parse(text)
	copy(b, strings.Repeat("q", len(b)))
	if !same(got.view, api.View{Name: "first", Kind: api.KPattern, Out: []string{"second"}, Atoms: []api.Atom{{From: "second", Label: "third", To: "fourth"}}}) {
		t.Errorf("%v", got.view)
	}
	text, b = lent("view first = reach second;")
	got = parse(text)
	copy(b, strings.Repeat("q", len(b)))
	if !same(got.view, api.View{Name: "first", Kind: api.KReach, Label: "second"}) {
		t.Errorf("%v", got.view)
	}
	from, fb := lent("from")
	label, lb := lent("label")
	v := api.View{Name: label, Kind: api.KPattern, Out: []string{from}, Atoms: []api.Atom{{From: from, Label: label, To: from}}}
	shown, _ := query.Show(v)
	vars := query.Vars(v)
	copy(fb, "qqqq")
	copy(lb, "qqqqq")
	if shown != "view label(from) = label(from, from);" || !slices.Equal(vars, []string{"from"}) {
		t.Errorf("%q, %v", shown, vars)
	}
}

// TestP9_3Alike has calls of the same, between others, that answer the same.
func TestP9_3Alike(t *testing.T) {
	first := map[string]parsed{}
	texts := append(slices.Clone(samples), "", "view", "view f(x, x) = k(x, x);", "view f(x) = k(y, y);", "é", strings.Repeat(" ", 1025))
	for range 3 {
		for _, text := range texts {
			got := parse(text)
			if was, ok := first[text]; ok && !got.is(was) {
				t.Errorf("%q: %v, %v", text, got, was)
			}
			first[text] = got
		}
	}
}

func TestP9_1EndIsThatOfTheWords(t *testing.T) {
	r := rand.New(rand.NewSource(95))
	for range 500 {
		l := wordsOf(randomView(r))
		text := laid(r, l[:r.Intn(len(l))])
		line, col := words.End(text)
		if got := parse(text); got.e != api.ErrSyntax || got.line != line || got.col != col {
			t.Fatalf("%q: %v, want %d, %d", text, got, line, col)
		}
	}
}
