package query_test

import (
	"fmt"
	"math/rand"
	"regexp"
	"slices"
	"strings"
	"testing"

	"rhizome/api"
	"rhizome/query"
	"rhizome/words"
)

// parsed is what Parse answers.
type parsed struct {
	view      api.View
	line, col int
	e         api.Errno
}

func parse(text string) parsed {
	v, line, col, e := query.Parse(text)
	return parsed{v, line, col, e}
}

func same(a, b api.View) bool {
	return a.Name == b.Name && a.Kind == b.Kind && a.Label == b.Label && slices.Equal(a.Out, b.Out) && slices.Equal(a.Atoms, b.Atoms)
}

func (p parsed) is(q parsed) bool {
	return same(p.view, q.view) && p.line == q.line && p.col == q.col && p.e == q.e
}

// A definition's form is a letter or a sign for each of its words: v for view, r for reach, n for any other name.
var wholeForm = regexp.MustCompile(`^v[vrn](\([vrn](,[vrn])*\)=[vrn]\([vrn],[vrn]\)(,[vrn]\([vrn],[vrn]\))*|=r[vrn]);$`)

func formOf(l []words.Word) string {
	var form strings.Builder
	for _, w := range l {
		switch {
		case !w.Name || w.Text == "view" || w.Text == "reach":
			form.WriteByte(w.Text[0])
		default:
			form.WriteByte('n')
		}
	}
	return form.String()
}

// begins tells whether a definition's form may begin so: whether the rest of one of the two least ones makes it whole.
func begins(form string) bool {
	for _, least := range []string{"vn(n)=n(n,n);", "vn=rn;"} {
		for i := range len(least) + 1 {
			if wholeForm.MatchString(form + least[i:]) {
				return true
			}
		}
	}
	return false
}

// soundWords is how many words of a form can stand where they stand.
func soundWords(form string) int {
	n := 0
	for n < len(form) && begins(form[:n+1]) {
		n++
	}
	return n
}

// every is the numbers of the words from first on, in steps, below end.
func every(first, step, end int) []int {
	var out []int
	for i := first; i < end; i += step {
		out = append(out, i)
	}
	return out
}

// parts are the numbers of the words that are outputs, and of those that are atoms' labels, as far as a form is sound.
func parts(form string) (outputs, labels []int) {
	if len(form) < 3 || form[2] != '(' {
		return nil, nil
	}
	shut := strings.IndexByte(form, ')')
	if shut < 0 {
		shut = len(form)
	}
	outputs = every(3, 2, shut)
	if is := strings.IndexByte(form, '='); is >= 0 {
		labels = every(is+1, 7, len(form))
	}
	return outputs, labels
}

// toldAt is the number of the word where a fault is told, and which one: none of a definition of outputs that may be no variables.
func toldAt(l []words.Word, outputs, labels []int, sound int) (int, api.Errno) {
	at, e := sound, api.Errno(90)
	if wholeForm.MatchString(formOf(l)) {
		at, e = len(l)+1, 0
	}
	for i, n := range outputs {
		came := slices.ContainsFunc(outputs[:i], func(o int) bool { return l[o].Text == l[n].Text })
		if came && n < at {
			at, e = n, 2
		}
	}
	if len(outputs) > 6 && outputs[6] <= at {
		at, e = outputs[6], 3
	}
	if len(labels) > 8 && labels[8] < at {
		at, e = labels[8], 3
	}
	return at, e
}

// viewOf is the view of a sound definition's words.
func viewOf(l []words.Word, outputs, labels []int) api.View {
	if len(outputs) == 0 {
		return api.View{Name: l[1].Text, Kind: 2, Label: l[4].Text}
	}
	v := api.View{Name: l[1].Text, Kind: 1}
	for _, n := range outputs {
		v.Out = append(v.Out, l[n].Text)
	}
	for _, n := range labels {
		v.Atoms = append(v.Atoms, api.Atom{Label: l[n].Text, From: l[n+2].Text, To: l[n+4].Text})
	}
	return v
}

// toldOfWords is what Parse is to answer of a text that has these words.
func toldOfWords(text string, l []words.Word) parsed {
	form := formOf(l)
	sound := soundWords(form)
	outputs, labels := parts(form[:sound])
	if at, e := toldAt(l, outputs, labels, sound); e != 0 {
		if at == len(l) {
			line, col := words.End(text)
			return parsed{line: line, col: col, e: e}
		}
		return parsed{line: l[at].Line, col: l[at].Col, e: e}
	}
	v := viewOf(l, outputs, labels)
	for _, n := range outputs {
		if !slices.Contains(toldVars(v), l[n].Text) {
			return parsed{line: l[n].Line, col: l[n].Col, e: 91}
		}
	}
	return parsed{view: v}
}

// told is what Parse is to answer, said anew.
func told(text string) parsed {
	l, line, col, e := words.Split(text)
	if e != 0 {
		return parsed{line: line, col: col, e: e}
	}
	return toldOfWords(text, l)
}

// toldVars are a pattern's variables.
func toldVars(v api.View) []string {
	var all, out []string
	for _, a := range v.Atoms {
		all = append(all, a.From, a.To)
	}
	for i, name := range all {
		if slices.Index(all, name) == i {
			out = append(out, name)
		}
	}
	return out
}

var nameForm = regexp.MustCompile(`^[a-z]{1,16}$`)

// isView tells whether there is a view that is v.
func isView(v api.View) bool {
	names := []string{v.Name}
	for _, a := range v.Atoms {
		names = append(names, a.From, a.Label, a.To)
	}
	names = append(names, v.Out...)
	switch v.Kind {
	case 1:
		vars := toldVars(v)
		for i, name := range v.Out {
			if slices.Index(v.Out, name) < i || !slices.Contains(vars, name) {
				return false
			}
		}
		if v.Label != "" || len(v.Out) == 0 || len(v.Out) > 6 || len(v.Atoms) == 0 || len(v.Atoms) > 8 {
			return false
		}
	case 2:
		names = append(names, v.Label)
		if len(v.Out)+len(v.Atoms) > 0 {
			return false
		}
	default:
		return false
	}
	return !slices.ContainsFunc(names, func(s string) bool { return !nameForm.MatchString(s) })
}

// toldText is a view's text.
func toldText(v api.View) string {
	if v.Kind == 2 {
		return fmt.Sprintf("view %s = reach %s;", v.Name, v.Label)
	}
	text := fmt.Sprintf("view %s(%s", v.Name, v.Out[0])
	for _, name := range v.Out[1:] {
		text += ", " + name
	}
	between := ") = "
	for _, a := range v.Atoms {
		text += between + fmt.Sprintf("%s(%s, %s)", a.Label, a.From, a.To)
		between = ", "
	}
	return text + ";"
}

// check holds Parse to what is told, what it answers to Check and Show, and answers it.
func check(t *testing.T, text string) parsed {
	t.Helper()
	want := told(text)
	got := parse(text)
	if !got.is(want) {
		t.Fatalf("Parse(%q): %v, want %v", text, got, want)
	}
	if got.e == api.OK {
		checkView(t, got.view)
	}
	return got
}

// checkView holds Check, Show and Vars to what is told of v, and what is shown to Parse.
func checkView(t *testing.T, v api.View) {
	t.Helper()
	shown, e := query.Show(v)
	if !isView(v) {
		if got := query.Check(v); got != api.ErrRange || e != api.ErrRange || shown != "" {
			t.Fatalf("%v: Check %d, Show %q, %d", v, got, shown, e)
		}
		return
	}
	if got := query.Check(v); got != api.OK || e != api.OK || shown != toldText(v) {
		t.Fatalf("%v: Check %d, Show %q, %d", v, got, shown, e)
	}
	if again := parse(shown); !again.is(parsed{view: v}) {
		t.Fatalf("%v is shown as %q, that is %v", v, shown, again)
	}
	if got := query.Vars(v); !slices.Equal(got, toldVars(v)) {
		t.Fatalf("Vars(%v): %v", v, got)
	}
}

// randomName is one of few names, so that many are the same; or, now and then, any.
func randomName(r *rand.Rand, few int) string {
	if r.Intn(20) > 0 {
		return []string{"x", "y", "z", "view", "reach", "xy", "abcdefghijklmnop", "k", "q"}[r.Intn(few)]
	}
	b := make([]byte, 1+r.Intn(api.MaxName))
	for i := range b {
		b[i] = byte('a' + r.Intn(26))
	}
	return string(b)
}

// randomView is a view.
func randomView(r *rand.Rand) api.View {
	if r.Intn(8) == 0 {
		return api.View{Name: randomName(r, 9), Kind: api.KReach, Label: randomName(r, 9)}
	}
	v := api.View{Name: randomName(r, 9), Kind: api.KPattern}
	for range 1 + r.Intn(api.MaxAtoms) {
		v.Atoms = append(v.Atoms, api.Atom{From: randomName(r, 9), Label: randomName(r, 9), To: randomName(r, 9)})
	}
	vars := toldVars(v)
	r.Shuffle(len(vars), func(i, j int) { vars[i], vars[j] = vars[j], vars[i] })
	v.Out = vars[:1+r.Intn(min(len(vars), api.MaxOut))]
	return v
}

// wordsOf are the words of a view's text, one by one.
func wordsOf(v api.View) []string {
	if v.Kind == api.KReach {
		return []string{"view", v.Name, "=", "reach", v.Label, ";"}
	}
	out := []string{"view", v.Name}
	for i, name := range v.Out {
		out = append(out, []string{"(", ","}[min(i, 1)], name)
	}
	out = append(out, ")")
	for i, a := range v.Atoms {
		out = append(out, []string{"=", ","}[min(i, 1)], a.Label, "(", a.From, ",", a.To, ")")
	}
	return append(out, ";")
}

// laid is a text of words with blanks and remarks between them, two signs also as the others that stand for them.
func laid(r *rand.Rand, l []string) string {
	between := []string{" ", " ", " ", "\n", "\t", "\u00a0", "\u3000", "# é;\n", "#x\n ", "\r\n", "  "}
	var b strings.Builder
	for _, w := range l {
		if w == "=" && r.Intn(3) == 0 {
			w = "\u2190"
		}
		if w == "," && r.Intn(3) == 0 {
			w = "\u2227"
		}
		b.WriteString(between[r.Intn(len(between))])
		b.WriteString(w)
	}
	b.WriteString([]string{"", "", "\n", "#", "# é\u2190", "# é\n\u3000", " "}[r.Intn(7)])
	return b.String()
}
