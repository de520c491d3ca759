package val_test

import (
	"bytes"
	"encoding/binary"
	"fmt"
	"math"
	"regexp"
	"slices"
	"strconv"
	"strings"
	"testing"
	"unicode/utf8"
	"unsafe"

	"rhizome/api"
	"rhizome/val"
)

func num(n int) api.Value     { return api.Value{Kind: api.VInt, Int: n} }
func text(s string) api.Value { return api.Value{Kind: api.VText, Text: s} }
func boolean(n int) api.Value { return api.Value{Kind: api.VBool, Int: n} }

// numbers are those around the ends of an int and of its digits of 128.
func numbers() []int {
	ns := []int{math.MinInt, math.MinInt + 1, math.MaxInt - 1, math.MaxInt}
	for n := -300; n <= 300; n++ {
		ns = append(ns, n)
	}
	for bits := 6; bits <= 62; bits++ {
		n := 1 << bits
		ns = append(ns, n-1, n, n+1, -n-1, -n, -n+1)
	}
	return ns
}

// texts are some around the edges: of one to four bytes a rune, of just MaxText bytes.
func texts() []string {
	return []string{
		"", "a", "ab", "b", "B", "ba", "\x00", "\x00\x00", "\t", "\n", "\r", "\x1f", " ", "!", "~", "\x7f", "\u0080", "\u009f",
		`"`, `""`, `\`, `\n`, `a"b\c`, "é", "éa", "\u07ff", "\u0800", "€", "\ud7ff", "\ue000", "\ufffd", "\uffff", "\U00010000", "😀", "\U0010ffff",
		"\a\"", "u{7}", strings.Repeat("x", 63), strings.Repeat("x", 64), strings.Repeat("é", 32), strings.Repeat("€", 21) + "x",
		strings.Repeat("\U0010ffff", 16), strings.Repeat("\x00", 64), strings.Repeat(`"`, 64),
	}
}

func values() []api.Value {
	vs := []api.Value{boolean(0), boolean(1)}
	for _, n := range numbers() {
		vs = append(vs, num(n))
	}
	for _, s := range texts() {
		vs = append(vs, text(s))
	}
	return vs
}

// wrong are none, each with the error that tells why.
func wrong() map[api.Value]api.Errno {
	m := map[api.Value]api.Errno{}
	for _, kind := range []int{0, 4, -1, 255, 256, 256 + api.VInt, 256 + api.VBool, math.MinInt, math.MaxInt} {
		m[api.Value{Kind: kind}] = api.ErrRange
		m[api.Value{Kind: kind, Int: 1, Text: "a"}] = api.ErrRange
		m[api.Value{Kind: kind, Text: "\xff"}] = api.ErrRange
	}
	for _, n := range []int{-1, 2, 256, 257, math.MinInt, math.MaxInt} {
		m[boolean(n)] = api.ErrRange
	}
	for _, s := range broken() {
		m[text(s)] = api.ErrText
	}
	for _, s := range long() {
		m[text(s)] = api.ErrLong
	}
	return m
}

// broken are no UTF-8.
func broken() []string {
	return []string{
		"\xff", "\x80", "a\xc3", "\xc3(", "\xc0\x80", "\xed\xa0\x80", "\xed\xbf\xbf", "\xf4\x90\x80\x80", "\xe2\x82", "\xf0\x9f\x98",
		strings.Repeat("x", 63) + "\xff", "\ufffd\xff",
	}
}

// long are of more than MaxText bytes, also such as are no UTF-8, and such as are fewer runes.
func long() []string {
	return []string{
		strings.Repeat("x", 65), strings.Repeat("é", 33), strings.Repeat("x", 64) + "\xff", strings.Repeat("\xff", 65),
		strings.Repeat("x", 256), strings.Repeat("x", 257), strings.Repeat("x", 1<<20),
	}
}

// loaded has in the fields that v's Kind doesn't use what they may hold of others.
func loaded(v api.Value) []api.Value {
	var vs []api.Value
	if v.Kind == api.VText {
		for _, n := range []int{1, -1, math.MinInt} {
			w := v
			w.Int = n
			vs = append(vs, w)
		}
		return vs
	}
	for _, s := range []string{"a", "\xff", strings.Repeat("x", 65)} {
		w := v
		w.Text = s
		vs = append(vs, w)
	}
	return vs
}

// bytesOf is a value's bytes, said anew.
func bytesOf(v api.Value) string {
	switch v.Kind {
	case api.VInt:
		return "\x01" + string(binary.AppendVarint(nil, int64(v.Int)))
	case api.VBool:
		return "\x03" + string([]byte{byte(v.Int)})
	}
	return "\x02" + string([]byte{byte(len(v.Text))}) + v.Text
}

// textOf is a value's text, said anew.
func textOf(v api.Value) string {
	switch v.Kind {
	case api.VInt:
		return fmt.Sprint(v.Int)
	case api.VBool:
		return fmt.Sprint(v.Int == 1)
	}
	s := strings.NewReplacer(`"`, `\"`, `\`, `\\`, "\n", `\n`, "\t", `\t`).Replace(v.Text)
	return `"` + regexp.MustCompile(`[\x00-\x1f\x7f]`).ReplaceAllStringFunc(s, func(c string) string {
		return fmt.Sprintf(`\u{%x}`, c[0])
	}) + `"`
}

// order is the document's order, said anew.
func order(a, b api.Value) int {
	switch {
	case a.Kind != b.Kind && a.Kind < b.Kind:
		return -1
	case a.Kind != b.Kind:
		return 1
	case a.Kind == api.VText:
		return slices.Compare([]rune(a.Text), []rune(b.Text))
	case a.Int < b.Int:
		return -1
	case a.Int > b.Int:
		return 1
	}
	return 0
}

func encode(t *testing.T, v api.Value) []byte {
	t.Helper()
	b, e := val.Encode(v)
	if e != api.OK {
		t.Fatalf("Encode(%#v): %d", v, e)
	}
	return b
}

func show(t *testing.T, v api.Value) string {
	t.Helper()
	s, e := val.Show(v)
	if e != api.OK {
		t.Fatalf("Show(%#v): %d", v, e)
	}
	return s
}

// all are all texts of at most most of these pieces.
func all(most int, pieces ...string) []string {
	out := []string{""}
	last := out
	for range most {
		var next []string
		for _, s := range last {
			for _, p := range pieces {
				next = append(next, s+p)
			}
		}
		out = append(out, next...)
		last = next
	}
	return out
}

func TestP2_1Check(t *testing.T) {
	for _, v := range values() {
		for _, w := range append(loaded(v), v) {
			if e := val.Check(w); e != api.OK {
				t.Errorf("Check(%#v): %d", w, e)
			}
		}
	}
	for v, want := range wrong() {
		if e := val.Check(v); e != want {
			t.Errorf("Check(%#v): %d; want %d", v, e, want)
		}
	}
}

func TestP2_1WrongOnesHaveNeitherBytesNorText(t *testing.T) {
	for v, want := range wrong() {
		if b, e := val.Encode(v); e != want || len(b) != 0 {
			t.Errorf("Encode(%#v): % x, %d; want %d", v, b, e, want)
		}
		if s, e := val.Show(v); e != want || s != "" {
			t.Errorf("Show(%#v): %q, %d; want %d", v, s, e, want)
		}
	}
}

func TestP2_1EncodeBytes(t *testing.T) {
	for _, c := range []struct {
		v    api.Value
		want string
	}{
		{num(0), "\x01\x00"},
		{num(-1), "\x01\x01"},
		{num(1), "\x01\x02"},
		{num(-2), "\x01\x03"},
		{num(63), "\x01\x7e"},
		{num(-64), "\x01\x7f"},
		{num(64), "\x01\x80\x01"},
		{num(-65), "\x01\x81\x01"},
		{num(8191), "\x01\xfe\x7f"},
		{num(-8192), "\x01\xff\x7f"},
		{num(8192), "\x01\x80\x80\x01"},
		{num(math.MaxInt), "\x01\xfe\xff\xff\xff\xff\xff\xff\xff\xff\x01"},
		{num(math.MinInt), "\x01\xff\xff\xff\xff\xff\xff\xff\xff\xff\x01"},
		{boolean(0), "\x03\x00"},
		{boolean(1), "\x03\x01"},
		{text(""), "\x02\x00"},
		{text("a\x00"), "\x02\x02a\x00"},
		{text("€"), "\x02\x03\xe2\x82\xac"},
		{text(strings.Repeat("x", 64)), "\x02\x40" + strings.Repeat("x", 64)},
	} {
		if b, e := val.Encode(c.v); e != api.OK || string(b) != c.want {
			t.Errorf("Encode(%#v): % x, %d; want % x", c.v, b, e, c.want)
		}
	}
	for _, v := range values() {
		for _, w := range append(loaded(v), v) {
			if b := encode(t, w); string(b) != bytesOf(v) {
				t.Errorf("Encode(%#v): % x; want % x", w, b, bytesOf(v))
			}
		}
	}
}

func TestP2_1DecodeWhatBytesBeginWith(t *testing.T) {
	for _, v := range values() {
		b := bytesOf(v)
		for _, behind := range []string{"", "\x00", "\x01", "\x80", "\xff\xff", b, strings.Repeat("x", 300)} {
			got, n, e := val.Decode([]byte(b + behind))
			if e != api.OK || n != len(b) || got != v {
				t.Errorf("Decode(% x): %#v, %d, %d; want %#v, %d", b+behind, got, n, e, v, len(b))
			}
		}
	}
}

func TestP2_1ShowTexts(t *testing.T) {
	for _, c := range []struct {
		v    api.Value
		want string
	}{
		{num(0), "0"},
		{num(-1), "-1"},
		{num(math.MaxInt), "9223372036854775807"},
		{num(math.MinInt), "-9223372036854775808"},
		{boolean(0), "false"},
		{boolean(1), "true"},
		{text(""), `""`},
		{text("a b"), `"a b"`},
		{text("\a\""), `"\u{7}\""`},
		{text("\x00"), `"\u{0}"`},
		{text("\t\n\r"), `"\t\n\u{d}"`},
		{text("\x1f \x7e\x7f\u0080"), "\"\\u{1f} \x7e\\u{7f}\u0080\""},
		{text(`\"\n`), `"\\\"\\n"`},
		{text("é€😀\ud7ff\ue000\ufffd\U0010ffff"), "\"é€😀\ud7ff\ue000\ufffd\U0010ffff\""},
		{text(strings.Repeat("\x00", 64)), `"` + strings.Repeat(`\u{0}`, 64) + `"`},
	} {
		if s, e := val.Show(c.v); e != api.OK || s != c.want {
			t.Errorf("Show(%#v): %s, %d; want %s", c.v, s, e, c.want)
		}
	}
	for _, v := range values() {
		for _, w := range append(loaded(v), v) {
			if s := show(t, w); s != textOf(v) {
				t.Errorf("Show(%#v): %s; want %s", w, s, textOf(v))
			}
		}
	}
}

func TestP2_1ParseNumbers(t *testing.T) {
	for _, s := range []string{
		"", "-", "+", "+1", "-0", "+0", "00", "01", "-01", "--1", " 1", "1 ", "\n1", "1\n", "1_0", "1_000", "0x1", "0b1", "0o1", "1.0", "1.", "1e3", "1,000",
		"9223372036854775808", "-9223372036854775809", "18446744073709551616", "99999999999999999999", "-0x1", "a", "1a", "१", "\xff", "1\x00",
		strings.Repeat("0", 1<<16), strings.Repeat("1", 1<<16), "null", "nil", "'a'", "a\"", "`a`",
		"True", "TRUE", "False", "t", "f", "tru", "truex", "true ", " true", "falsex", "fals", `true"`,
	} {
		if v, e := val.Parse(s); e != api.ErrForm || v != (api.Value{}) {
			t.Errorf("Parse(%.40q): %#v, %d; want ErrForm", s, v, e)
		}
	}
}

// A text of these pieces is a number's, or true or false, just if it is shown of one.
func TestP2_1ParseAllShortOnes(t *testing.T) {
	for _, s := range all(5, "0", "1", "9", "-", "+", "_", " ") {
		n, err := strconv.ParseInt(s, 10, 64)
		v, e := val.Parse(s)
		if err == nil && fmt.Sprint(n) == s {
			if e != api.OK || v != num(int(n)) {
				t.Fatalf("Parse(%q): %#v, %d", s, v, e)
			}
		} else if e != api.ErrForm || v != (api.Value{}) {
			t.Fatalf("Parse(%q): %#v, %d; want ErrForm", s, v, e)
		}
	}
}

func TestP2_1ParseTexts(t *testing.T) {
	for s, want := range map[string]string{
		`"\u{0041}"`: "A", `"\u{41}"`: "A", `"\u{000041}"`: "A",
		`"\u{0}"`: "\x00", `"\u{000000}"`: "\x00", `"\u{a}"`: "\n", `"\u{0A}"`: "\n", `"\u{9}"`: "\t", `"\u{22}"`: `"`, `"\u{5c}"`: `\`, `"\u{5C}n"`: `\n`,
		`"\u{7F}"`: "\x7f", `"\u{00007f}"`: "\x7f", `"\u{aBcD}"`: "\uabcd", `"\u{AbCdE}"`: "\U000abcde",
		`"\u{d7ff}\u{e000}"`: "\ud7ff\ue000", `"\u{10ffff}"`: "\U0010ffff", `"\u{10FFFF}"`: "\U0010ffff", `"\u{fffd}"`: "\ufffd",
		`"x\u{20}y\u{20}"`: "x y ", `"\\u{41}"`: `\u{41}`, `"'"`: "'", `"\\"`: `\`, `"\\\\"`: `\\`, `"\""`: `"`,
		"\"\u0080\u2028\"":                                           "\u0080\u2028",
		`"` + strings.Repeat(`\u{00004a}`, 64) + `"`:                 strings.Repeat("J", 64),
		`"` + strings.Repeat(`\u{10fffe}`, 16) + `"`:                 strings.Repeat("\U0010fffe", 16),
		`"` + strings.Repeat(`\u{0000e9}`, 31) + `\u{00004a}é` + `"`: strings.Repeat("é", 31) + "J" + "é",
	} {
		v, e := val.Parse(s)
		if len(want) > api.MaxText {
			if e != api.ErrForm || v != (api.Value{}) {
				t.Errorf("Parse(%s): %#v, %d; want ErrForm", s, v, e)
			}
			continue
		}
		if e != api.OK || v != text(want) {
			t.Errorf("Parse(%s): %#v, %d; want %q", s, v, e, want)
		}
	}
}

func TestP2_1ParseNoTexts(t *testing.T) {
	for _, s := range []string{
		`"`, `"a`, `a"`, `"""`, `"a"b"`, `"a" `, ` "a"`, `"a""`, `"a""b"`, `"a"\n`, `"\"`, `"\\\"`, `"\a"`, `"\r"`, `"\0"`, `"\'"`, `"\x41"`, `"\u0041"`, `"\U{41}"`, `"\ n"`,
		`"\u"`, `"\u{"`, `"\u{}"`, `"\u{41"`, `"\u{41\}"`, `"\u41}"`, `"\u{ 41}"`, `"\u{41 }"`, `"\u{+1}"`, `"\u{-1}"`, `"\u{4_1}"`, `"\u{g}"`, `"\u{G}"`, "\"\\u{`}\"", `"\u{@}"`, `"\u{/}"`, `"\u{:}"`, `"\u{１}"`,
		`"\u{0000041}"`, `"\u{0000000}"`, `"\u{1000000}"`, `"\u{110000}"`, `"\u{ffffff}"`, `"\u{d800}"`, `"\u{D800}"`, `"\u{dbff}"`, `"\u{dc00}"`, `"\u{00dfff}"`, `"\u{100000041}"`, `"\u{0010ffff}"`,
		"\"a\nb\"", "\"\t\"", "\"\x00\"", "\"\x1f\"", "\"\x7f\"", "\"\r\"",
		"\"\xff\"", "\"a\xc3\"", "\"\xed\xa0\x80\"", "\"\xc0\x80\"", "\"\\\xff\"", "\"\\u{\xff}\"", "\xff\"\"", "\"\"\xff",
	} {
		if v, e := val.Parse(s); e != api.ErrForm || v != (api.Value{}) {
			t.Errorf("Parse(%s): %#v, %d; want ErrForm", s, v, e)
		}
	}
	for _, s := range append(long(), strings.Repeat("x", 64)+"\x00", strings.Repeat("\x01", 65), strings.Repeat("é", 30)+"12345") {
		if v, e := val.Parse(textOf(text(s))); e != api.ErrForm || v != (api.Value{}) {
			t.Errorf("Parse of a text of %d bytes: %#v, %d; want ErrForm", len(s), v, e)
		}
	}
	if v, e := val.Parse(`"` + strings.Repeat(`\u{00004a}`, 65) + `"`); e != api.ErrForm || v != (api.Value{}) {
		t.Errorf("Parse of 65 escapes: %#v, %d; want ErrForm", v, e)
	}
}

var form = regexp.MustCompile(`^"([^"\\\x00-\x1f\x7f]|\\["\\nt]|\\u\{[0-9a-fA-F]{1,6}\})*"$`)
var escape = regexp.MustCompile(`\\(u\{[^}]*\}|.)`)

// said is the text that s writes, by patterns; false, if it writes none.
func said(s string) (string, bool) {
	if !utf8.ValidString(s) || !form.MatchString(s) {
		return "", false
	}
	ok := true
	out := escape.ReplaceAllStringFunc(s[1:len(s)-1], func(x string) string {
		switch x[1] {
		case 'n':
			return "\n"
		case 't':
			return "\t"
		case 'u':
			n, _ := strconv.ParseUint(x[3:len(x)-1], 16, 64)
			ok = ok && n <= 0x10ffff && (n < 0xd800 || n > 0xdfff)
			return string(rune(n))
		}
		return x[1:]
	})
	return out, ok && len(out) <= api.MaxText
}

func checkParse(t *testing.T, s string) {
	v, e := val.Parse(s)
	want, ok := said(s)
	if !ok {
		if e != api.ErrForm || v != (api.Value{}) {
			t.Fatalf("Parse(%q): %#v, %d; want ErrForm", s, v, e)
		}
	} else if e != api.OK || v != text(want) {
		t.Fatalf("Parse(%q): %#v, %d; want %q", s, v, e, want)
	}
}

func TestP2_1ParseAllThatPiecesMake(t *testing.T) {
	for _, s := range all(4, `"`, `\`, "n", "t", "u", "{", "}", "0", "f", "G", "\n", "é", "\xff") {
		checkParse(t, `"`+s)
		checkParse(t, `"`+s+`"`)
	}
	for _, s := range all(7, "0", "d", "F", "1", "}") {
		checkParse(t, `"\u{`+s+`}"`)
	}
	for _, s := range all(3, `\u{`, `\u`, "}", "10ffff", "110000", "d7ff", "D800", "dfff", "E000", "0", `\\`, `\"`, `"`) {
		checkParse(t, `"`+s+`"`)
	}
}

func TestP2_1Cut(t *testing.T) {
	for _, c := range []struct {
		s    string
		n    int
		want string
	}{
		{"", 0, ""}, {"", 5, ""}, {"abc", 0, ""}, {"abc", 1, "a"}, {"abc", 2, "ab"}, {"abc", 3, "abc"}, {"abc", 4, "abc"}, {"abc", math.MaxInt, "abc"},
		{"aé€😀b", 1, "a"}, {"aé€😀b", 2, "aé"}, {"aé€😀b", 3, "aé€"}, {"aé€😀b", 4, "aé€😀"}, {"aé€😀b", 5, "aé€😀b"},
		{"e\u0301x", 1, "e"}, {"\ufffd\x00\"", 2, "\ufffd\x00"},
		{strings.Repeat("é", 1000), 999, strings.Repeat("é", 999)}, // more than a value's
	} {
		if got, e := val.Cut(c.s, c.n); e != api.OK || got != c.want {
			t.Errorf("Cut(%q, %d): %q, %d; want %q", c.s, c.n, got, e, c.want)
		}
	}
	for _, s := range all(4, "a", "é", "€", "😀") {
		for n := range 6 {
			want := string([]rune(s)[:min(n, utf8.RuneCountInString(s))])
			if got, e := val.Cut(s, n); e != api.OK || got != want {
				t.Errorf("Cut(%q, %d): %q, %d; want %q", s, n, got, e, want)
			}
		}
	}
}

func TestP2_1CutOfWrongOnes(t *testing.T) {
	for _, n := range []int{-1, math.MinInt} {
		for _, s := range []string{"", "abc", strings.Repeat("é", 100)} {
			if got, e := val.Cut(s, n); e != api.ErrRange || got != "" {
				t.Errorf("Cut(%q, %d): %q, %d; want ErrRange", s, n, got, e)
			}
		}
	}
	for _, s := range append(broken(), "abc\xff", strings.Repeat("x", 1000)+"\xc3") {
		for _, n := range []int{-1, 0, 1, 3, math.MaxInt} { // ErrText is named first
			if got, e := val.Cut(s, n); e != api.ErrText || got != "" {
				t.Errorf("Cut(%q, %d): %q, %d; want ErrText", s, n, got, e)
			}
		}
	}
}

func TestP2_2EncodedIsDecoded(t *testing.T) {
	for _, v := range values() {
		b := encode(t, v)
		if got, n, e := val.Decode(b); e != api.OK || n != len(b) || got != v {
			t.Errorf("Decode(% x): %#v, %d, %d; want %#v", b, got, n, e, v)
		}
	}
}

func TestP2_2ShownIsParsed(t *testing.T) {
	for _, v := range values() {
		s := show(t, v)
		if got, e := val.Parse(s); e != api.OK || got != v {
			t.Errorf("Parse(%s): %#v, %d; want %#v", s, got, e, v)
		}
	}
}

func TestP2_2EachRune(t *testing.T) {
	for r := rune(0); r <= utf8.MaxRune; r++ {
		if !utf8.ValidRune(r) {
			continue
		}
		v := text("a" + string(r) + "b")
		b := encode(t, v)
		if got, n, e := val.Decode(b); e != api.OK || n != len(b) || got != v {
			t.Fatalf("%x: Decode(% x): %#v, %d, %d", r, b, got, n, e)
		}
		s := show(t, v)
		if escaped := r < 32 || r == 127 || r == '"' || r == '\\'; escaped == (s == `"`+v.Text+`"`) {
			t.Fatalf("%x: Show: %s", r, s)
		}
		for _, x := range []string{s, fmt.Sprintf(`"a\u{%x}b"`, r), fmt.Sprintf(`"a\u{%X}b"`, r), fmt.Sprintf(`"a\u{%06x}b"`, r)} {
			if got, e := val.Parse(x); e != api.OK || got != v {
				t.Fatalf("%x: Parse(%s): %#v, %d", r, x, got, e)
			}
		}
	}
}

func TestP2_2NoBeginningIsAValues(t *testing.T) {
	for _, v := range values() {
		b := encode(t, v)
		for i := range b {
			if got, n, e := val.Decode(b[:i]); e != api.ErrForm || n != 0 || got != (api.Value{}) {
				t.Fatalf("Decode(% x): %#v, %d, %d; want ErrForm", b[:i], got, n, e)
			}
		}
	}
}

// begun is the value that s begins with, by the library's numbers of digits of 128, and how many bytes it has; 0, if there is none.
func begun(s string) (api.Value, int) {
	if len(s) < 2 {
		return api.Value{}, 0
	}
	v, size := api.Value{Kind: int(s[0])}, 0
	switch v.Kind {
	case api.VInt:
		n, read := binary.Varint([]byte(s[1:]))
		v.Int, size = int(n), 1+read
	case api.VBool:
		v.Int, size = int(s[1]), 2
	case api.VText:
		v.Text, size = s[2:min(len(s), 2+int(s[1]))], 2+int(s[1])
	}
	if size < 2 || val.Check(v) != api.OK || !strings.HasPrefix(s, bytesOf(v)) {
		return api.Value{}, 0
	}
	return v, size
}

func checkDecode(t *testing.T, s string) {
	got, n, e := val.Decode([]byte(s))
	v, size := begun(s)
	if size == 0 {
		if e != api.ErrForm || n != 0 || got != (api.Value{}) {
			t.Fatalf("Decode(% x): %#v, %d, %d; want ErrForm", s, got, n, e)
		}
	} else if e != api.OK || n != size || got != v {
		t.Fatalf("Decode(% x): %#v, %d, %d; want %#v, %d", s, got, n, e, v, size)
	}
}

func TestP2_2OfOtherBytesNothing(t *testing.T) {
	for _, s := range all(6, "\x00", "\x01", "\x02", "\x03", "\x04", "\x7f", "\x80", "\xff") {
		checkDecode(t, s)
	}
	for _, s := range all(5, "\x00", "\x01", "\x02", "a", "\x80", "\xc3", "\xa9", "\xff") {
		checkDecode(t, "\x02"+s)
		checkDecode(t, "\x02\x03"+s)
		checkDecode(t, "\x01\x80\x80"+s)
	}
	for c := range 256 { // each byte as a kind, a truth, a count, a digit, a last digit
		one := string([]byte{byte(c)})
		for _, s := range []string{one, one + "\x00", one + "\x01\x01", "\x03" + one, "\x01" + one, "\x01\xff" + one, "\x02\x01" + one} {
			checkDecode(t, s)
		}
		checkDecode(t, "\x02"+one+strings.Repeat("x", 256))
		for digits := 1; digits < 12; digits++ {
			checkDecode(t, "\x01"+strings.Repeat("\x80", digits)+one)
			checkDecode(t, "\x01"+strings.Repeat("\xff", digits)+one+"\x00")
			checkDecode(t, "\x01"+strings.Repeat("\xff", digits)+one+"\x01")
		}
	}
	for _, s := range append(broken(), long()...) {
		if len(s) < 256 {
			checkDecode(t, "\x02"+string([]byte{byte(len(s))})+s)
		}
	}
	checkDecode(t, "\x01"+strings.Repeat("\x80", 1<<16))
}

func TestP2_3TheOrder(t *testing.T) {
	vs := values()
	for _, a := range vs {
		for _, b := range vs {
			want := order(a, b)
			if got := val.Cmp(a, b); got != want {
				t.Fatalf("Cmp(%#v, %#v): %d; want %d", a, b, got, want)
			}
			if val.Same(a, b) != (a == b) || (want == 0) != (a == b) {
				t.Fatalf("Same(%#v, %#v): %t", a, b, val.Same(a, b))
			}
		}
	}
}

func TestP2_3WhatAKindDoesNotUse(t *testing.T) {
	vs := []api.Value{num(0), num(1), boolean(0), boolean(1), text(""), text("a"), text("b")}
	for _, a := range vs {
		for _, b := range vs {
			for _, x := range append(loaded(a), a) {
				for _, y := range append(loaded(b), b) {
					if got, want := val.Cmp(x, y), order(a, b); got != want {
						t.Fatalf("Cmp(%#v, %#v): %d; want %d", x, y, got, want)
					}
					if got, want := val.Same(x, y), a == b; got != want {
						t.Fatalf("Same(%#v, %#v): %t; want %t", x, y, got, want)
					}
				}
			}
		}
	}
}

func TestP2_3TextsAreInTheOrderOfTheirBytes(t *testing.T) {
	ss := append(all(3, "\x00", "a", "\x7f", "é", "\uffff", "\U00010000", "\ue000"), texts()...)
	for _, a := range ss {
		for _, b := range ss {
			if got, want := val.Cmp(text(a), text(b)), strings.Compare(a, b); got != want || want != order(text(a), text(b)) {
				t.Fatalf("Cmp(%q, %q): %d; want %d", a, b, got, want)
			}
		}
	}
}

func TestP2_1AnswersAreNewMemory(t *testing.T) {
	for _, v := range []api.Value{num(64), boolean(1), text("abc")} {
		first, again := encode(t, v), encode(t, v)
		first = first[:cap(first)]
		for i := range first {
			first[i] = 0xee
		}
		if string(again) != bytesOf(v) || string(encode(t, v)) != bytesOf(v) {
			t.Errorf("answers of Encode(%#v) share memory", v)
		}
	}
	room := []byte("\x02\x03abcspare")
	was := bytes.Clone(room)
	v, _, _ := val.Decode(room[:5])
	if !bytes.Equal(room, was) {
		t.Errorf("Decode changed its bytes: % x", room)
	}
	for i := range room {
		room[i] = 'x'
	}
	if v != text("abc") {
		t.Errorf("Decode's value shares its bytes: %#v", v)
	}
	s := strings.Repeat("ab", 50)
	for _, n := range []int{1, 99, 100, 101} {
		got, _ := val.Cut(s, n)
		from, at := uintptr(unsafe.Pointer(unsafe.StringData(s))), uintptr(unsafe.Pointer(unsafe.StringData(got)))
		if from <= at && at < from+uintptr(len(s)) {
			t.Errorf("Cut's answer shares its text, for %d runes", n)
		}
	}
}
