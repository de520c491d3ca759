package words

import "rhizome/api"

// What the splitter is within.
const (
	between = iota // of nothing: the next rune begins something
	inName         // the last word, to which more letters may come
	inRemark
)

// Two signs that stand for others, which are easier to type.
const (
	arrow = '\u2190'
	and   = '\u2227'
)

// splitter takes a text rune by rune.
type splitter struct {
	words  []Word
	within int
	at     place // of the next rune
	fault  place // where a rune was refused, or the name that it made too long
}

// take tells whether the next rune may stand where it stands.
func (s *splitter) take(r rune) bool {
	here := s.at
	s.at = here.behind(r)
	switch {
	case s.within == inRemark:
		if r == newline {
			s.within = between
		}
		return true
	case isLetter(r):
		return s.letter(r, here)
	case r == '#':
		s.within = inRemark
		return true
	}
	s.within = between
	if isBlank(r) {
		return true
	}
	return s.sign(r, here)
}

// letter goes on with the name that is open, or begins one.
func (s *splitter) letter(r rune, here place) bool {
	if s.within != inName {
		s.within = inName
		s.add(Word{Name: true}, here)
	}
	w := &s.words[len(s.words)-1]
	if len(w.Text) == api.MaxName {
		s.fault = place{w.Line, w.Col}
		return false
	}
	w.Text += string(r) // a piece of the text would share its memory
	return true
}

func (s *splitter) sign(r rune, here place) bool {
	text := signOf(r)
	if text == "" {
		s.fault = here
		return false
	}
	s.add(Word{Text: text}, here)
	return true
}

func (s *splitter) add(w Word, here place) {
	w.Line, w.Col = here.line, here.col
	s.words = append(s.words, w)
}

func isLetter(r rune) bool { return 'a' <= r && r <= 'z' }

func isBlank(r rune) bool {
	switch r {
	case '\t', newline, '\r', ' ', '\u00a0', '\u3000':
		return true
	}
	return false
}

// signOf is the text of the sign that a rune is; none, if it is no sign.
func signOf(r rune) string {
	switch r {
	case '(':
		return "("
	case ')':
		return ")"
	case ',', and:
		return ","
	case '=', arrow:
		return "="
	case ';':
		return ";"
	}
	return ""
}
