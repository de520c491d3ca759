package words

// newline ends a line, and a remark.
const newline = '\n'

// place is where a rune stands.
type place struct{ line, col int }

func beginning() place { return place{1, 1} }

// behind is the place behind a rune that stands at p.
func (p place) behind(r rune) place {
	if r == newline {
		return place{p.line + 1, 1}
	}
	return place{p.line, p.col + 1}
}
