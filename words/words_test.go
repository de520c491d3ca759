package words_test

import (
	"math/rand"
	"slices"
	"strings"
	"testing"
	"unicode/utf8"
	"unsafe"

	"rhizome/api"
	"rhizome/words"
)

// blanks are all that there are.
var blanks = []string{"\t", "\n", "\r", " ", "\u00a0", "\u3000"}

// signs are all that there are, each with its text.
var signs = [][2]string{{"(", "("}, {")", ")"}, {",", ","}, {"=", "="}, {";", ";"}, {"\u2190", "="}, {"\u2227", ","}}

// broken begin with a byte that begins no rune, whatever stands behind.
var broken = []string{
	"\x80", "\xbf", "\xff", "\xfe", "\xf8\x88\x80\x80\x80", "\xfc\x84\x80\x80\x80\x80", // no first byte
	"\xc3(", "\xc3\xff", "\xe2\x82(", "\xe2(\x82", "\xf0\x9f\x98(", "\xf0\x9f(\x80", "\xf0(\x98\x80", // cut short
	"\xc0\x80", "\xc1\xbf", "\xc0\xa8", "\xe0\x80\xa8", "\xe0\x9f\xbf", "\xf0\x80\x80\xa8", "\xf0\x82\x86\x90", "\xf0\x8f\xbf\xbf", // too long
	"\xed\xa0\x80", "\xed\xaf\xbf", "\xed\xb0\x80", "\xed\xbf\xbf", "\xed\xa0\xbd\xed\xb8\x80", // surrogates
	"\xf4\x90\x80\x80", "\xf5\x80\x80\x80", "\xf7\xbf\xbf\xbf", // beyond 10FFFF
}

// cut are runes without their last bytes, at a text's end.
var cut = []string{"\xc3", "\xe2", "\xe2\x88", "\xef\xbf", "\xf0", "\xf0\x9f", "\xf0\x9f\x98"}

func TestP8_1Examples(t *testing.T) {
	splits(t, "view a(x) ← b(x,y);", "nview na s( nx s) s= nb s( nx s, ny s) s;")
	stands(t, "view a(x) ← b(x,y);", "1:1 1:6 1:7 1:8 1:9 1:11 1:13 1:14 1:15 1:16 1:17 1:18 1:19")
	stands(t, "(\n  b", "1:1 2:3")
	refused(t, "(é", api.ErrWord, 1, 2)
	a := split("view a(x) ← b(x,y);")
	if want := (words.Word{Name: true, Text: "view", Line: 1, Col: 1}); a.words[0] != want {
		t.Errorf("the first word: %v", a.words[0])
	}
	if want := (words.Word{Name: false, Text: "=", Line: 1, Col: 11}); a.words[5] != want {
		t.Errorf("the sixth word: %v", a.words[5])
	}
}

func TestP8_1Empty(t *testing.T) {
	splits(t, "", "")
	ends(t, "", 1, 1)
	for _, s := range []string{" ", "\n", "#", "#\n", "##", "# a", "\n\n", "\u3000#\u3000"} {
		splits(t, s, "")
	}
	if l, line, col, e := words.Split(""); len(l) != 0 || line != 0 || col != 0 || e != api.OK {
		t.Errorf("%v %d %d %d", l, line, col, e)
	}
}

func TestP8_1Blanks(t *testing.T) {
	for _, b := range blanks {
		splits(t, b, "")
		splits(t, "a"+b+"b", "na nb")
		splits(t, b+b+"("+b+"b"+b, "s( nb")
		if b == "\n" {
			continue
		}
		stands(t, b+"a"+b+b+"b", "1:2 1:5")
		ends(t, b, 1, 2)
	}
	for _, b := range []string{"\v", "\f", "\u0085", "\u00a1", "\u00ad", "\u1680", "\u2000", "\u2009", "\u200b", "\u2028", "\u2029", "\u202f", "\u205f", "\u2060", "\u2fff", "\u3001", "\ufeff"} {
		refused(t, "a"+b+"b", api.ErrWord, 1, 2)
	}
}

func TestP8_1Newlines(t *testing.T) {
	stands(t, "a\nb\n\nc", "1:1 2:1 4:1")
	stands(t, "\na b\n  c", "2:1 2:3 3:3")
	stands(t, "a\r\nb\rc", "1:1 2:1 2:3") // the rune 13 is a column
	stands(t, "# a\nb # c\nd", "2:1 3:1")
	ends(t, "\n", 2, 1)
	ends(t, "a\n", 2, 1)
	ends(t, "a\n\n", 3, 1)
	ends(t, "a\r", 1, 3)
	ends(t, "a\nbc", 2, 3)
	ends(t, "#a\n", 2, 1)
	ends(t, "#a", 1, 3)
	for _, other := range []string{"\v", "\f", "\r", "\u0085", "\u2028", "\u2029"} {
		ends(t, "a"+other+"b", 1, 4)
	}
}

func TestP8_1Remarks(t *testing.T) {
	splits(t, "a#b", "na")
	splits(t, "a#b\n", "na")
	splits(t, "a#b\nc", "na nc")
	splits(t, "a # view (,=;) ←∧ # é #\n;", "na s;")
	splits(t, "#a#b\n#c\nd", "nd")
	splits(t, "##\n#\nd", "nd")
	splits(t, "#A1-_!\x00\x7f\ufffd\ufeff😀\n)", "s)")
	splits(t, "#"+strings.Repeat("a", 17)+"\n)", "s)")
	stands(t, "a#é\nb", "1:1 2:1")
	for _, other := range []string{"\v", "\f", "\r", "\u0085", "\u2028", "\u2029", "\u3000"} {
		splits(t, "#a"+other+"b", "") // it goes on
		splits(t, "#a"+other+"B", "")
	}
}

func TestP8_1Names(t *testing.T) {
	for r := 'a'; r <= 'z'; r++ {
		splits(t, string(r), "n"+string(r))
	}
	splits(t, "abcdefghijklm nopqrstuvwxyz", "nabcdefghijklm nnopqrstuvwxyz")
	splits(t, "view reach view", "nview nreach nview")
	for _, other := range "`{@[/:AZM_-09'" {
		refused(t, "a"+string(other), api.ErrWord, 1, 2)
		refused(t, string(other)+"a", api.ErrWord, 1, 1)
	}
}

func TestP8_1NamesAreLong(t *testing.T) {
	for n := 1; n <= 40; n++ {
		name := strings.Repeat("x", n)
		for _, behind := range []string{"", " ", "\n", "(", ",", "#", "#x\nx", " x", "\u2190", "\u3000"} {
			for _, ahead := range []string{"", " ", "(", "#x\n", "ab\n ", "\u2190"} {
				text := ahead + name + behind
				line, col := placeOf(text, len(ahead))
				if n > 16 {
					refused(t, text, api.ErrWord, line, col)
					continue
				}
				a := check(t, text)
				if a.e != api.OK || !slices.Contains(a.words, words.Word{Name: true, Text: name, Line: line, Col: col}) {
					t.Errorf("%q: %v", text, a)
				}
			}
		}
	}
}

func TestP8_1Signs(t *testing.T) {
	for _, s := range signs {
		splits(t, s[0], "s"+s[1])
		splits(t, s[0]+s[0], "s"+s[1]+" s"+s[1])
		splits(t, "a"+s[0]+"b", "na s"+s[1]+" nb")
		stands(t, "a"+s[0]+"b"+s[0]+s[0], "1:1 1:2 1:3 1:4 1:5")
		splits(t, s[0]+"#"+s[0]+"\n"+s[0], "s"+s[1]+" s"+s[1])
		ends(t, s[0], 1, 2)
	}
	for _, s := range []string{"\u218f", "\u2191", "\u2192", "\u21d0", "\u2226", "\u2228", "\u22c0", "^", "<", ">", "<-", ".", ":", "[", "]", "{", "}", "\"", "'", "\uff08", "\uff0c", "\uff1b", "\u061b", "\u037e"} {
		refused(t, "a"+s, api.ErrWord, 1, 2)
	}
}

// one is what a text of a single rune is, and what it makes of two names around it; false, if it is refused.
func one(s string) (alone, around string, ok bool) {
	if slices.Contains(blanks, s) {
		return "", "na nb", true
	}
	for _, sign := range signs {
		if s == sign[0] {
			return "s" + sign[1], "na s" + sign[1] + " nb", true
		}
	}
	switch {
	case s == "#":
		return "", "na", true
	case "a" <= s && s <= "z":
		return "n" + s, "na" + s + "b", true
	}
	return "", "", false
}

// TestP8_1EachRune has each rune alone, between two names, and in a remark.
func TestP8_1EachRune(t *testing.T) {
	for r := rune(0); r <= utf8.MaxRune; r++ {
		if !utf8.ValidRune(r) {
			continue
		}
		s := string(r)
		alone, around, ok := one(s)
		a, b := split(s), split("a"+s+"b")
		if ok && (a.e != api.OK || b.e != api.OK || texts(a.words) != alone || texts(b.words) != around) {
			t.Fatalf("%U: %v, %v", r, a, b)
		}
		if !ok && (!a.is(answer{nil, 1, 1, api.ErrWord}) || !b.is(answer{nil, 1, 2, api.ErrWord})) {
			t.Fatalf("%U: %v, %v", r, a, b)
		}
		if r == '\n' {
			continue
		}
		if c := split("#" + s + "a"); !c.is(answer{}) {
			t.Fatalf("%U in a remark: %v", r, c)
		}
		if line, col := words.End("#" + s + "a"); line != 1 || col != 4 {
			t.Fatalf("End behind %U: %d, %d", r, line, col)
		}
	}
}

// TestP8_1Columns has runes of one to four bytes ahead of what is told.
func TestP8_1Columns(t *testing.T) {
	stands(t, "\u00a0a\u3000b\u2190c\u2227d", "1:2 1:4 1:5 1:6 1:7 1:8")
	stands(t, "\u2227\u2190\u3000\u00a0\n\u00a0\u3000\u2190\u2227a", "1:1 1:2 2:3 2:4 2:5")
	for _, s := range []string{"", "x", "\x00", "\u0080", "é", "\u07ff", "\u0800", "€", "\ud7ff", "\ue000", "\ufffd", "\uffff", "\U00010000", "😀", "\U0010ffff"} {
		n := utf8.RuneCountInString(s)
		ends(t, "#"+s, 1, 2+n)
		ends(t, s+s, 1, 1+2*n)
		ends(t, "#\n"+s+"x", 2, 2+n)
		refused(t, "#"+s+"\xff", api.ErrText, 1, 2+n)
		refused(t, "#\n#"+s+"😀\xff", api.ErrText, 2, 3+n)
		stands(t, "#"+s+"\n a", "2:2") // behind it a line begins anew
		refused(t, "#"+s+"\n a!", api.ErrWord, 2, 3)
	}
}

func TestP8_1MaxSource(t *testing.T) {
	for _, s := range []string{" ", "\n", "#", "(", "\u00a0", "\u2190", "a ", "\n;", "abcdefghijklmno "} {
		full := strings.Repeat(s, 1024/len(s)) + strings.Repeat(" ", 1024%len(s))
		if a := check(t, full); a.e != api.OK {
			t.Errorf("1024 bytes of %q: %v", s, a)
		}
		refused(t, full+" ", api.ErrLong, 0, 0)
		refused(t, full+full, api.ErrLong, 0, 0)
	}
	if a := check(t, strings.Repeat("(", 1024)); len(a.words) != 1024 {
		t.Errorf("%d words", len(a.words))
	}
	refused(t, strings.Repeat(" ", 1023)+"\u00a0", api.ErrLong, 0, 0) // as many runes as there may be bytes
	refused(t, strings.Repeat("\u3000", 342), api.ErrLong, 0, 0)
	refused(t, strings.Repeat(" ", 1024)+"\xff", api.ErrLong, 0, 0)
	refused(t, "\xff!"+strings.Repeat(" ", 1023), api.ErrLong, 0, 0)
	refused(t, strings.Repeat("a", 1025), api.ErrLong, 0, 0)
	refused(t, strings.Repeat(" ", 1023)+"!", api.ErrWord, 1, 1024)
	refused(t, strings.Repeat("\n", 1023)+"\xff", api.ErrText, 1024, 1)
	refused(t, strings.Repeat(" ", 1022)+"é", api.ErrWord, 1, 1023)
}

func TestP8_1EndOfLongTexts(t *testing.T) {
	ends(t, strings.Repeat(" ", 1025), 1, 1026)
	ends(t, strings.Repeat("é", 1025), 1, 1026)
	ends(t, strings.Repeat("a\n", 2000)+"bc", 2001, 3)
	ends(t, strings.Repeat("😀", 1<<16)+"\xff"+strings.Repeat("\n", 1<<16), 1, 1<<16+1)
	ends(t, strings.Repeat("\xff", 1<<16), 1, 1)
}

// TestP8_1ErrWord has what may stand nowhere but in a remark, on the first line and on later ones.
func TestP8_1ErrWord(t *testing.T) {
	for _, s := range []string{"A", "Z", "0", "9", "é", "ß", "ä", "а", "ｂ", "!", "-", ".", "_", "\"", "\x00", "\x7f", "\u0080", "\ufeff", "\ufffd", "\xef\xbf\xbd", "\uffff", "\u0301", "😀", "\U0010ffff"} {
		refused(t, s, api.ErrWord, 1, 1)
		refused(t, s+"a", api.ErrWord, 1, 1)
		refused(t, "view"+s, api.ErrWord, 1, 5)
		refused(t, "view a"+s+"b(x)", api.ErrWord, 1, 7)
		refused(t, "view # "+s+"\n\n (\u2190"+s+"\n", api.ErrWord, 3, 4)
		refused(t, "a\n\n"+s+s, api.ErrWord, 3, 1)
		splits(t, "a#"+s+"\n;", "na s;")
		ends(t, "a"+s+"b", 1, 4)
		ends(t, s+"\n"+s, 2, 2)
	}
}

// TestP8_1ErrText has bytes that begin no rune at the beginning, in the middle, at the end, and within a remark.
func TestP8_1ErrText(t *testing.T) {
	for _, s := range slices.Concat(broken, cut) {
		refused(t, s, api.ErrText, 1, 1)
		ends(t, s, 1, 1)
		refused(t, "view é"+s, api.ErrText, 1, 7)
		ends(t, "view é"+s, 1, 7)
		refused(t, "a\n\nb"+s, api.ErrText, 3, 2)
		refused(t, "a\n"+s, api.ErrText, 2, 1)
		refused(t, "a#b"+s, api.ErrText, 1, 4)
		refused(t, "a\n#\u3000"+s, api.ErrText, 2, 3)
		refused(t, "\ufffd\ufffd"+s, api.ErrText, 1, 3)
		ends(t, "\ufffd\ufffd"+s, 1, 3)
	}
	for _, s := range broken {
		refused(t, s+"a", api.ErrText, 1, 1)
		refused(t, "a("+s+"x);", api.ErrText, 1, 3)
		refused(t, "a\n  b"+s+"\n\nc", api.ErrText, 2, 4)
		refused(t, "#"+s+"\na", api.ErrText, 1, 2)
		ends(t, "a\n  b"+s+"\n\nc", 2, 4) // nothing behind counts
	}
}

// TestP8_1ShortBytes has all texts of one and of two bytes, and those of three and four whose bytes are at the edges.
func TestP8_1ShortBytes(t *testing.T) {
	for a := range 256 {
		check(t, string([]byte{byte(a)}))
		for b := range 256 {
			check(t, string([]byte{byte(a), byte(b)}))
		}
	}
	edges := []byte("\x0a#a \x7f\x80\x8f\x90\x9f\xa0\xbf\xc0\xc1\xc2\xdf\xe0\xe1\xec\xed\xee\xef\xf0\xf1\xf3\xf4\xf5\xff")
	for _, a := range edges {
		for _, b := range edges {
			for _, c := range edges {
				check(t, string([]byte{a, b, c}))
			}
		}
	}
	for _, a := range []byte("#\xe0\xed\xef\xf0\xf1\xf3\xf4\xf5") {
		for _, b := range edges {
			for _, c := range []byte("\x0a\x7f\x80\xbf\xc0") {
				for _, d := range []byte("\x0aa\x7f\x80\xbf\xc0") {
					check(t, string([]byte{a, b, c, d}))
				}
			}
		}
	}
}

// TestP8_1WhichFaultIsTold has texts with several faults.
func TestP8_1WhichFaultIsTold(t *testing.T) {
	long := strings.Repeat("a", 17)
	refused(t, "A\n"+long+"\n\xff", api.ErrText, 3, 1) // no UTF-8 is told ahead of what stands ahead of it
	refused(t, "é\xff", api.ErrText, 1, 2)
	refused(t, "#\xff\n!", api.ErrText, 1, 2)
	refused(t, "\xff!\xff", api.ErrText, 1, 1)
	refused(t, "(\xe2\x82\n\xff", api.ErrText, 1, 2)
	refused(t, "! "+long, api.ErrWord, 1, 1)
	refused(t, long+"!", api.ErrWord, 1, 1)
	refused(t, long+" "+long, api.ErrWord, 1, 1)
	refused(t, "a "+long+"\n!", api.ErrWord, 1, 3)
	refused(t, "a\n!"+long, api.ErrWord, 2, 1)
	refused(t, "b ? !", api.ErrWord, 1, 3)
	refused(t, "#!\n?", api.ErrWord, 2, 1)
	refused(t, "#"+long+"\n "+long, api.ErrWord, 2, 2)
	refused(t, strings.Repeat("a", 16)+"!", api.ErrWord, 1, 17)
	refused(t, strings.Repeat("a", 16)+"A", api.ErrWord, 1, 17)
	refused(t, strings.Repeat("a", 17)+"A", api.ErrWord, 1, 1)
	refused(t, "\xff"+strings.Repeat("!", 1024), api.ErrLong, 0, 0)
}

// TestP8_1BesideAnErrorNothing has words ahead of each fault.
func TestP8_1BesideAnErrorNothing(t *testing.T) {
	for _, s := range []string{"view a(x)!", "view a(x) \xff", "view a(x)" + strings.Repeat("x", 17), "view a(x)" + strings.Repeat(" ", 1024)} {
		if l, _, _, e := words.Split(s); len(l) != 0 || e == api.OK {
			t.Errorf("%q: %v, %d", s, l, e)
		}
	}
}

// pieces are of each kind that a text may hold.
var pieces = []string{"a", "z", "abcdefghijklmnop", "(", ";", "\u2190", "\u2227", " ", "\n", "\u00a0", "\u3000", "#", "é", "😀", "\ufffd", "A", "\xff", "\xe2\x82"}

// TestP8_1AllThatPiecesMake has all texts of at most four pieces.
func TestP8_1AllThatPiecesMake(t *testing.T) {
	list := []string{""}
	for range 4 {
		var next []string
		for _, s := range list {
			for _, p := range pieces {
				check(t, s+p)
				next = append(next, s+p)
			}
		}
		list = next
	}
}

func TestP8_1AnyTexts(t *testing.T) {
	rnd := rand.New(rand.NewSource(8))
	fine, faults := 0, 0
	for range 20000 {
		var b strings.Builder
		sound := rnd.Intn(3) > 0
		for range rnd.Intn(60) {
			p := pieces[rnd.Intn(len(pieces))]
			if sound && strings.ContainsAny(p, "é😀A\xff\xe2\ufffd") {
				p = "\n"
			}
			b.WriteString(p)
		}
		if a := check(t, b.String()); a.e == api.OK {
			fine++
		} else {
			faults++
		}
	}
	if fine < 1000 || faults < 1000 {
		t.Errorf("%d fine, %d faults", fine, faults)
	}
}

// anyGap is blanks and remarks, one at least, that end outside a remark.
func anyGap(rnd *rand.Rand) string {
	var b strings.Builder
	for range 1 + rnd.Intn(3) {
		if rnd.Intn(3) == 0 {
			b.WriteString([]string{"#\n", "# (a,b) = #\n", "#A1é😀\ufffd\r\n", "#" + strings.Repeat("x", 20) + "\n"}[rnd.Intn(4)])
			continue
		}
		b.WriteString(blanks[rnd.Intn(len(blanks))])
	}
	return b.String()
}

func anyWord(rnd *rand.Rand) (string, string) {
	if rnd.Intn(2) == 0 {
		s := signs[rnd.Intn(len(signs))]
		return s[0], "s" + s[1]
	}
	name := make([]byte, 1+rnd.Intn(16))
	for i := range name {
		name[i] = byte('a' + rnd.Intn(26))
	}
	return string(name), "n" + string(name)
}

// TestP8_2JoinedByBlanks has words split just as they were joined, with their places.
func TestP8_2JoinedByBlanks(t *testing.T) {
	rnd := rand.New(rand.NewSource(82))
	for range 5000 {
		var want []string
		var wantWords []words.Word
		text := ""
		if rnd.Intn(2) == 0 {
			text = anyGap(rnd)
		}
		for range rnd.Intn(12) {
			s, w := anyWord(rnd)
			if len(want) > 0 {
				text += anyGap(rnd)
			}
			line, col := placeOf(text, len(text))
			wantWords = append(wantWords, words.Word{Name: w[0] == 'n', Text: w[1:], Line: line, Col: col})
			want = append(want, w)
			text += s
		}
		if rnd.Intn(2) == 0 {
			text += anyGap(rnd)
		}
		if len(text) > 1024 {
			continue
		}
		splits(t, text, strings.Join(want, " "))
		if got := split(text); !slices.Equal(got.words, wantWords) {
			t.Fatalf("%q: %v, want %v", text, got.words, wantWords)
		}
	}
}

// TestP8_2NoBlankNeeded has signs beside words, and remarks behind words, with no blank between.
func TestP8_2NoBlankNeeded(t *testing.T) {
	plain := "view a ( x , y ) = b ( x , z ) , c ( z , y ) ;"
	want := texts(split(plain).words)
	for _, text := range []string{
		"view a(x,y)=b(x,z),c(z,y);",
		"view a(x\u2227y)\u2190b(x,z)\u2227c(z,y);",
		"#\nview#\na#\n(#\nx#\n,y#)\n)#\n=b(x,z)#,\n,c(z#z\n,y);#",
		"\u3000view\u00a0a(\tx\r\n,\ny)\n=\n\tb(x,z),\n\tc(z,y)\n;\n",
		"view # the\na # of x and y\n(x, y) \u2190 # is\nb(x, z) \u2227 # and\nc(z, y); # end",
	} {
		splits(t, text, want)
	}
}

// TestP8_2GapsBetweenEachTwo has each gap between each two words, and where none is needed none.
func TestP8_2GapsBetweenEachTwo(t *testing.T) {
	gaps := append([]string{"", "#\n", "#a\n", "#(\n", "##\n", "#\xc3\xa9\n"}, blanks...)
	all := append([][2]string{{"a", "a"}, {"abcdefghijklmnop", "abcdefghijklmnop"}}, signs...)
	for i, a := range all {
		for j, b := range all {
			for _, gap := range gaps {
				if gap == "" && i < 2 && j < 2 {
					continue
				}
				kinds := []string{"s", "s"}
				if i < 2 {
					kinds[0] = "n"
				}
				if j < 2 {
					kinds[1] = "n"
				}
				splits(t, a[0]+gap+b[0], kinds[0]+a[1]+" "+kinds[1]+b[1])
			}
		}
	}
	splits(t, "a"+"a", "naa") // two names with nothing between are one
}

// TestP8_1AnswersAreNewMemory has a text lent to the calls, and overwritten behind them.
func TestP8_1AnswersAreNewMemory(t *testing.T) {
	const text = "view longest ( x ) \u2190 abcdefghijklmnop ( x \u2227 a ) ;"
	b := []byte(text)
	got := split(unsafe.String(&b[0], len(b)))
	words.End(unsafe.String(&b[0], len(b)))
	if string(b) != text {
		t.Fatalf("the text was changed: %q", b)
	}
	for i := range b {
		b[i] = 'q'
	}
	want := told(text)
	if !got.is(want) {
		t.Fatalf("behind the text's end: %v, want %v", got, want)
	}
	whole := got.words[:cap(got.words)]
	for i := range whole {
		whole[i] = words.Word{Name: true, Text: "spoilt", Line: 7, Col: 7}
	}
	if again := split(text); !again.is(want) {
		t.Errorf("behind a spoilt answer: %v, want %v", again, want)
	}
}

// TestP8_1AskedAgain has each answer hang on the text alone.
func TestP8_1AskedAgain(t *testing.T) {
	list := []string{"a", "\xff", "!", "#", strings.Repeat("a", 17), "abc", "", "(", "\n\n", strings.Repeat(" ", 1025)}
	for _, a := range list {
		for _, b := range list {
			check(t, a)
			check(t, b)
		}
	}
}
