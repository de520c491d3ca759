package words_test

import (
	"fmt"
	"regexp"
	"slices"
	"strings"
	"testing"

	"rhizome/api"
	"rhizome/words"
)

// answer is what Split answers.
type answer struct {
	words     []words.Word
	line, col int
	e         api.Errno
}

// wellFormed are RFC 3629's rows: the first byte's bounds, then those of the bytes behind it.
var wellFormed = [][][2]byte{
	{{0x00, 0x7f}},
	{{0xc2, 0xdf}, {0x80, 0xbf}},
	{{0xe0, 0xe0}, {0xa0, 0xbf}, {0x80, 0xbf}},
	{{0xe1, 0xec}, {0x80, 0xbf}, {0x80, 0xbf}},
	{{0xed, 0xed}, {0x80, 0x9f}, {0x80, 0xbf}},
	{{0xee, 0xef}, {0x80, 0xbf}, {0x80, 0xbf}},
	{{0xf0, 0xf0}, {0x90, 0xbf}, {0x80, 0xbf}, {0x80, 0xbf}},
	{{0xf1, 0xf3}, {0x80, 0xbf}, {0x80, 0xbf}, {0x80, 0xbf}},
	{{0xf4, 0xf4}, {0x80, 0x8f}, {0x80, 0xbf}, {0x80, 0xbf}},
}

// sizeOf is how many bytes the rune has that a text begins with; 0, if it begins with none.
func sizeOf(text string) int {
	for _, row := range wellFormed {
		fits := len(row) <= len(text)
		for i := 0; fits && i < len(row); i++ {
			fits = row[i][0] <= text[i] && text[i] <= row[i][1]
		}
		if fits {
			return len(row)
		}
	}
	return 0
}

// soundPart is how many bytes of a text stand ahead of the first that begins no rune.
func soundPart(text string) int {
	at := 0
	for at < len(text) {
		n := sizeOf(text[at:])
		if n == 0 {
			break
		}
		at += n
	}
	return at
}

// placeOf is the place of the byte at, in front of which all is sound.
func placeOf(text string, at int) (int, int) {
	ahead := text[:at]
	line := strings.LastIndexByte(ahead, 10) + 1
	begun := 0
	for _, b := range []byte(ahead[line:]) {
		if b < 0x80 || b > 0xbf { // the bytes with which runes begin
			begun++
		}
	}
	return 1 + strings.Count(ahead, "\x0a"), 1 + begun
}

// piece is a name, a sign, or whatever else is sound (a remark, a blank, another rune).
var piece = regexp.MustCompile(`([a-z]+)|([(),=;\x{2190}\x{2227}])|(#[^\x0a]*|[\x09\x0a\x0d\x20\x{a0}\x{3000}])|[^a-z]`)

// told is what Split is to answer, said anew.
func told(text string) answer {
	if len(text) > 1024 {
		return answer{e: 3}
	}
	if n := soundPart(text); n < len(text) {
		line, col := placeOf(text, n)
		return answer{line: line, col: col, e: 7}
	}
	var a answer
	for _, m := range piece.FindAllStringSubmatchIndex(text, -1) {
		line, col := placeOf(text, m[0])
		s := text[m[0]:m[1]]
		switch {
		case m[2] >= 0 && len(s) <= 16:
			a.words = append(a.words, words.Word{Name: true, Text: s, Line: line, Col: col})
		case m[4] >= 0:
			s = strings.NewReplacer("\u2190", "=", "\u2227", ",").Replace(s)
			a.words = append(a.words, words.Word{Text: s, Line: line, Col: col})
		case m[6] < 0:
			return answer{line: line, col: col, e: 80}
		}
	}
	return a
}

func split(text string) answer {
	l, line, col, e := words.Split(text)
	return answer{l, line, col, e}
}

func (a answer) is(b answer) bool {
	return slices.Equal(a.words, b.words) && a.line == b.line && a.col == b.col && a.e == b.e
}

// check holds both calls to what is told, and answers it.
func check(t *testing.T, text string) answer {
	t.Helper()
	want := told(text)
	if got := split(text); !got.is(want) {
		t.Fatalf("Split(%q): %v, want %v", text, got, want)
	}
	line, col := words.End(text)
	wantLine, wantCol := placeOf(text, soundPart(text))
	if line != wantLine || col != wantCol {
		t.Fatalf("End(%q): %d, %d, want %d, %d", text, line, col, wantLine, wantCol)
	}
	return want
}

// texts are those of a text's words: a name with a letter n ahead, a sign with an s.
func texts(l []words.Word) string {
	var b strings.Builder
	for i, w := range l {
		kind := "s"
		if w.Name {
			kind = "n"
		}
		if i > 0 {
			b.WriteString(" ")
		}
		b.WriteString(kind + w.Text)
	}
	return b.String()
}

// refused has a text refused with an error, at a place.
func refused(t *testing.T, text string, e api.Errno, line, col int) {
	t.Helper()
	check(t, text)
	if got := split(text); !got.is(answer{nil, line, col, e}) {
		t.Errorf("Split(%q): %v, want %d at %d, %d", text, got, e, line, col)
	}
}

// splits has a text split into just the words of these texts.
func splits(t *testing.T, text, want string) {
	t.Helper()
	check(t, text)
	if got := split(text); got.e != api.OK || texts(got.words) != want {
		t.Errorf("Split(%q): %v, want %s", text, got, want)
	}
}

// stands has a text's words stand at these places, each line:column.
func stands(t *testing.T, text, want string) {
	t.Helper()
	check(t, text)
	var l []string
	for _, w := range split(text).words {
		l = append(l, fmt.Sprintf("%d:%d", w.Line, w.Col))
	}
	if got := strings.Join(l, " "); got != want {
		t.Errorf("Split(%q): places %s, want %s", text, got, want)
	}
}

// ends has a text end at a place.
func ends(t *testing.T, text string, line, col int) {
	t.Helper()
	check(t, text)
	if l, c := words.End(text); l != line || c != col {
		t.Errorf("End(%q): %d, %d, want %d, %d", text, l, c, line, col)
	}
}
