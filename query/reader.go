package query

import (
	"slices"

	"rhizome/api"
	"rhizome/words"
)

// fault is what a reader throws, which reads no further: an error, and the place where it is told.
type fault struct {
	line, col int
	e         api.Errno
}

// reader reads a definition word by word.
type reader struct {
	words []words.Word // those that are still to be read
	end   words.Word   // what is read behind them: neither a name nor a sign, at the place behind the text
}

func newReader(text string, l []words.Word) *reader {
	line, col := words.End(text)
	return &reader{l, words.Word{Line: line, Col: col}}
}

// refuse ends the reading at a word.
func refuse(w words.Word, e api.Errno) {
	panic(fault{w.Line, w.Col, e})
}

// sees is the next word.
func (r *reader) sees() words.Word {
	if len(r.words) == 0 {
		return r.end
	}
	return r.words[0]
}

func (r *reader) take() words.Word {
	w := r.sees()
	if len(r.words) > 0 {
		r.words = r.words[1:]
	}
	return w
}

// goesOn takes the next word, if it has that text, and tells whether it did.
func (r *reader) goesOn(text string) bool {
	if r.sees().Text != text {
		return false
	}
	r.take()
	return true
}

// want takes a word that has to stand there.
func (r *reader) want(text string) {
	if !r.goesOn(text) {
		refuse(r.sees(), api.ErrSyntax)
	}
}

func (r *reader) name() words.Word {
	w := r.take()
	if !w.Name {
		refuse(w, api.ErrSyntax)
	}
	return w
}

// nothing wants the text's end.
func (r *reader) nothing() {
	if len(r.words) > 0 {
		refuse(r.sees(), api.ErrSyntax)
	}
}

func (r *reader) definition() api.View {
	r.want("view")
	name := r.name().Text
	if r.goesOn("(") {
		return r.pattern(name)
	}
	return r.reach(name)
}

// pattern reads on behind the bracket of the outputs.
func (r *reader) pattern(name string) api.View {
	out := r.outputs()
	r.want(")")
	r.want("=")
	v := api.View{Name: name, Kind: api.KPattern, Atoms: r.atoms()}
	r.want(";")
	r.nothing()
	for _, w := range out {
		if !isBound(w.Text, v.Atoms) {
			refuse(w, api.ErrBound)
		}
		v.Out = append(v.Out, w.Text)
	}
	return v
}

func (r *reader) reach(name string) api.View {
	r.want("=")
	r.want("reach")
	v := api.View{Name: name, Kind: api.KReach, Label: r.name().Text}
	r.want(";")
	r.nothing()
	return v
}

func (r *reader) outputs() []words.Word {
	var out []words.Word
	for {
		w := r.name()
		if len(out) == api.MaxOut {
			refuse(w, api.ErrLong)
		}
		if slices.ContainsFunc(out, func(o words.Word) bool { return o.Text == w.Text }) {
			refuse(w, api.ErrTwice)
		}
		out = append(out, w)
		if !r.goesOn(",") {
			return out
		}
	}
}

func (r *reader) atoms() []api.Atom {
	var out []api.Atom
	for {
		label := r.name()
		if len(out) == api.MaxAtoms {
			refuse(label, api.ErrLong)
		}
		out = append(out, r.atom(label.Text))
		if !r.goesOn(",") {
			return out
		}
	}
}

// atom reads on behind the label.
func (r *reader) atom(label string) api.Atom {
	r.want("(")
	from := r.name().Text
	r.want(",")
	to := r.name().Text
	r.want(")")
	return api.Atom{From: from, Label: label, To: to}
}
