package key_test

import (
	"bytes"
	"math"
	"regexp"
	"slices"
	"strings"
	"testing"

	"rhizome/api"
	"rhizome/key"
)

// parts are numbers and texts around the edges, in no order.
func parts() []key.Part {
	var ps []key.Part
	for _, n := range []int{0, 1, -1, 127, 128, 255, 256, -256, 65535, 1 << 32, math.MaxInt, math.MaxInt - 1, math.MinInt, math.MinInt + 1} {
		ps = append(ps, key.Num(n))
	}
	for _, s := range []string{"", "\x00", "\x00\x00", "\x00\x01", "\x00\xff", "\x01", "\x02", "a", "a\x00", "a\x00b", "a\x01", "aa", "b", "é", "\xff", "\xff\x00", "\xff\xff"} {
		ps = append(ps, key.Str(s))
	}
	return ps
}

// keys are all keys of at most most parts.
func keys(most int) [][]key.Part {
	all := [][]key.Part{nil}
	last := all
	for range most {
		var next [][]key.Part
		for _, k := range last {
			for _, p := range parts() {
				next = append(next, append(slices.Clone(k), p))
			}
		}
		all = append(all, next...)
		last = next
	}
	return all
}

// texts are all texts of at most most of these bytes.
func texts(most int, of string) []string {
	all := []string{""}
	last := all
	for range most {
		var next []string
		for _, s := range last {
			for i := range len(of) {
				next = append(next, s+of[i:i+1])
			}
		}
		all = append(all, next...)
		last = next
	}
	return all
}

func encode(t *testing.T, k []key.Part) []byte {
	t.Helper()
	b, e := key.Encode(k)
	if e != api.OK {
		t.Fatalf("Encode(%#v): %d", k, e)
	}
	return b
}

// order is the document's order, said anew.
func order(a, b []key.Part) int {
	for i := 0; i < len(a) && i < len(b); i++ {
		x, y := a[i], b[i]
		if x == y {
			continue
		}
		if !x.Text && (y.Text || x.N < y.N) || x.Text && y.Text && x.S < y.S {
			return -1
		}
		return 1
	}
	switch {
	case len(a) < len(b):
		return -1
	case len(a) > len(b):
		return 1
	}
	return 0
}

func begins(a, b []key.Part) bool {
	return len(a) >= len(b) && slices.Equal(a[:len(b)], b)
}

func TestP1_1EncodeBytes(t *testing.T) {
	for _, c := range []struct {
		k    []key.Part
		want string
	}{
		{nil, ""},
		{[]key.Part{}, ""},
		{[]key.Part{key.Num(1)}, "\x01\x80\x00\x00\x00\x00\x00\x00\x01"},
		{[]key.Part{key.Num(0)}, "\x01\x80\x00\x00\x00\x00\x00\x00\x00"},
		{[]key.Part{key.Num(-1)}, "\x01\x7f\xff\xff\xff\xff\xff\xff\xff"},
		{[]key.Part{key.Num(0x0102030405060708)}, "\x01\x81\x02\x03\x04\x05\x06\x07\x08"},
		{[]key.Part{key.Num(math.MinInt)}, "\x01\x00\x00\x00\x00\x00\x00\x00\x00"},
		{[]key.Part{key.Num(math.MaxInt)}, "\x01\xff\xff\xff\xff\xff\xff\xff\xff"},
		{[]key.Part{key.Str("")}, "\x02\x00\x01"},
		{[]key.Part{key.Str("a\x00b")}, "\x02a\x00\xffb\x00\x01"},
		{[]key.Part{key.Str("\x00\x00")}, "\x02\x00\xff\x00\xff\x00\x01"},
		{[]key.Part{key.Str("\xff\x01\x02")}, "\x02\xff\x01\x02\x00\x01"},
		{[]key.Part{key.Str("a"), key.Num(2), key.Str("")}, "\x02a\x00\x01\x01\x80\x00\x00\x00\x00\x00\x00\x02\x02\x00\x01"},
		{[]key.Part{{Text: true, S: "a", N: 7}, {S: "x", N: 1}}, "\x02a\x00\x01\x01\x80\x00\x00\x00\x00\x00\x00\x01"},
	} {
		if b, e := key.Encode(c.k); e != api.OK || string(b) != c.want {
			t.Errorf("Encode(%#v): % x, %d; want % x", c.k, b, e, c.want)
		}
	}
}

func TestP1_1EncodeLength(t *testing.T) {
	nums := func(n int) []key.Part { return make([]key.Part, n) }
	for _, c := range []struct {
		name string
		k    []key.Part
		size int // 0: too long
	}{
		{"a text of just MaxKey", []key.Part{key.Str(strings.Repeat("x", 197))}, 200},
		{"a text of one more", []key.Part{key.Str(strings.Repeat("x", 198))}, 0},
		{"zeros, which count twice", []key.Part{key.Str("x" + strings.Repeat("\x00", 98))}, 200},
		{"zeros of one more", []key.Part{key.Str("xx" + strings.Repeat("\x00", 98))}, 0},
		{"zeros that would fit if they counted once", []key.Part{key.Str(strings.Repeat("\x00", 197))}, 0},
		{"22 numbers", nums(22), 198},
		{"23 numbers", nums(23), 0},
		{"numbers and a text of just MaxKey", append(nums(20), key.Str(strings.Repeat("x", 17))), 200},
		{"numbers and a text of one more", append(nums(20), key.Str(strings.Repeat("x", 18))), 0},
		{"many parts", nums(100000), 0},
		{"a great text", []key.Part{key.Str(strings.Repeat("x", 1<<20))}, 0},
	} {
		b, e := key.Encode(c.k)
		if c.size == 0 && (e != api.ErrLong || len(b) != 0) {
			t.Errorf("%s: %d bytes, %d; want ErrLong", c.name, len(b), e)
		}
		if c.size != 0 && (e != api.OK || len(b) != c.size) {
			t.Errorf("%s: %d bytes, %d; want %d", c.name, len(b), e, c.size)
		}
	}
}

func TestP1_1DecodeLength(t *testing.T) {
	long := encode(t, []key.Part{key.Str(strings.Repeat("x", 197))})
	if k, e := key.Decode(long); e != api.OK || !slices.Equal(k, []key.Part{key.Str(strings.Repeat("x", 197))}) {
		t.Errorf("of MaxKey bytes: %#v, %d", k, e)
	}
	if k, e := key.Decode(make([]byte, api.MaxKey)); e != api.ErrForm || len(k) != 0 {
		t.Errorf("of MaxKey zeros: %#v, %d; want ErrForm", k, e)
	}
	whole := bytes.Repeat([]byte("\x02\x00\x01"), 67) // would be a key's, but for its 201 bytes
	for _, b := range [][]byte{whole, make([]byte, api.MaxKey+1), make([]byte, 1<<20)} {
		if k, e := key.Decode(b); e != api.ErrLong || len(k) != 0 {
			t.Errorf("of %d bytes: %#v, %d; want ErrLong", len(b), k, e)
		}
	}
}

func TestP1_1CmpIsTheOrder(t *testing.T) {
	all := keys(2)
	for _, a := range all {
		for _, b := range all {
			if got, want := key.Cmp(a, b), order(a, b); got != want {
				t.Fatalf("Cmp(%#v, %#v): %d; want %d", a, b, got, want)
			}
		}
	}
}

func TestP1_1CmpOfLongKeys(t *testing.T) {
	long := slices.Repeat([]key.Part{key.Num(5), key.Str(strings.Repeat("x", 300))}, 500)
	more := append(slices.Clone(long), key.Num(math.MinInt))
	less := slices.Clone(long)
	less[999] = key.Str(strings.Repeat("x", 299) + "w")
	for _, c := range []struct {
		a, b []key.Part
		want int
	}{{long, long, 0}, {long, more, -1}, {more, long, 1}, {less, long, -1}, {long, less, 1}, {more, less, 1}} {
		if got := key.Cmp(c.a, c.b); got != c.want {
			t.Errorf("Cmp: %d; want %d", got, c.want)
		}
	}
}

func TestP1_1CmpUsesWhatTheKindUses(t *testing.T) {
	num := []key.Part{{N: 3, S: "z"}}
	text := []key.Part{{Text: true, S: "a", N: 9}}
	if key.Cmp(num, []key.Part{key.Num(3)}) != 0 || key.Cmp(text, []key.Part{key.Str("a")}) != 0 {
		t.Errorf("a field that a part's kind doesn't use was used")
	}
}

func TestP1_1End(t *testing.T) {
	for in, want := range map[string]string{
		"": "", "\xff": "", "\xff\xff\xff": "",
		"\x01\xff": "\x02", "\x00": "\x01", "a": "b", "ab": "ac", "a\x00": "a\x01",
		"a\xff\xff": "b", "\xff\x00": "\xff\x01", "\xfe": "\xff", "\xff\xfe\xff": "\xff\xff",
	} {
		if got := key.End([]byte(in)); string(got) != want {
			t.Errorf("End(% x): % x; want % x", in, got, want)
		}
	}
	if key.End(nil) != nil {
		t.Errorf("End(nil): not none")
	}
	long := strings.Repeat("x", 1000) // more than a key's
	if got := key.End([]byte(long + "a\xff")); string(got) != long+"b" {
		t.Errorf("End of a long one: % x", got)
	}
}

// Bytes that are short are greater than all that begin with b just if they are greater than b with many FF behind.
func TestP1_1EndIsTheLeast(t *testing.T) {
	some := texts(3, "\x00\x01ab\xfe\xff")
	for _, b := range some {
		end := key.End([]byte(b))
		top := b + strings.Repeat("\xff", 9)
		for _, s := range some {
			behind := end != nil && s >= string(end)
			if behind != (s > top && b != "") {
				t.Fatalf("End(% x): % x, but % x", b, end, s)
			}
		}
	}
}

func TestP1_1Parts(t *testing.T) {
	if p := key.Num(-7); p != (key.Part{N: -7}) {
		t.Errorf("Num: %#v", p)
	}
	if p := key.Str("x\x00"); p != (key.Part{Text: true, S: "x\x00"}) {
		t.Errorf("Str: %#v", p)
	}
}

func TestP1_2BytesInOrder(t *testing.T) {
	all := keys(2)
	enc := make([][]byte, len(all))
	for i, k := range all {
		enc[i] = encode(t, k)
	}
	for i, a := range all {
		for j, b := range all {
			if got, want := bytes.Compare(enc[i], enc[j]), order(a, b); got != want {
				t.Fatalf("%#v against %#v: bytes %d, keys %d", a, b, got, want)
			}
			if got, want := bytes.HasPrefix(enc[i], enc[j]), begins(a, b); got != want {
				t.Fatalf("%#v begins with %#v: bytes %#v, keys %#v", a, b, got, want)
			}
		}
	}
}

func TestP1_2RangeOfABeginning(t *testing.T) {
	all := keys(2)
	for _, k := range keys(1) {
		from := encode(t, k)
		to := key.End(from)
		for _, x := range all {
			b := encode(t, x)
			in := bytes.Compare(b, from) >= 0 && (to == nil || bytes.Compare(b, to) < 0)
			if in != begins(x, k) {
				t.Fatalf("%#v in the range of %#v: %#v", x, k, in)
			}
		}
	}
}

func TestP1_3ThereAndBack(t *testing.T) {
	for _, k := range keys(3) {
		b := encode(t, k)
		got, e := key.Decode(b)
		if e != api.OK || !slices.Equal(got, k) {
			t.Fatalf("Decode(% x): %#v, %d; want %#v", b, got, e, k)
		}
	}
}

func TestP1_3UnusedFieldsAreZero(t *testing.T) {
	b := encode(t, []key.Part{{Text: true, S: "a", N: 7}, {S: "x", N: 1}})
	if k, e := key.Decode(b); e != api.OK || !slices.Equal(k, []key.Part{key.Str("a"), key.Num(1)}) {
		t.Errorf("Decode: %#v, %d", k, e)
	}
}

// form is a key's bytes said as a pattern, with a letter for each byte.
var form = regexp.MustCompile(`^(n.{8}|t([^z]|zf)*zn)*$`)

func letters(s string) string {
	out := bytes.Repeat([]byte("x"), len(s))
	for i := range len(s) {
		switch s[i] {
		case 0x00:
			out[i] = 'z'
		case 0x01:
			out[i] = 'n'
		case 0x02:
			out[i] = 't'
		case 0xFF:
			out[i] = 'f'
		}
	}
	return string(out)
}

func checkForm(t *testing.T, s string) {
	k, e := key.Decode([]byte(s))
	if !form.MatchString(letters(s)) {
		if e != api.ErrForm || len(k) != 0 {
			t.Fatalf("Decode(% x): %#v, %d; want ErrForm", s, k, e)
		}
		return
	}
	if e != api.OK {
		t.Fatalf("Decode(% x): %d; want a key", s, e)
	}
	if b := encode(t, k); string(b) != s {
		t.Fatalf("Decode(% x): %#v, which is encoded as % x", s, k, b)
	}
}

func TestP1_3OfOtherBytesNothing(t *testing.T) {
	for _, s := range texts(8, "\x00\x01\x02\xff") {
		checkForm(t, s)
	}
	for _, s := range texts(6, "\x00\x01\x02a\xff") {
		checkForm(t, s)
		checkForm(t, "\x01\x80\x00\x00\x00\x00\x00\x00\x05"+s)
		checkForm(t, "\x02a\x00\x01"+s)
	}
	for c := range 256 { // each byte as a mark, behind a zero, within a number, behind a key
		one := string([]byte{byte(c)})
		checkForm(t, one)
		checkForm(t, one+"a\x00\x01")
		checkForm(t, "\x02a\x00"+one)
		checkForm(t, "\x02a\x00"+one+"\x00\x01")
		checkForm(t, "\x01"+strings.Repeat(one, 7))
		checkForm(t, "\x01"+strings.Repeat(one, 8))
		checkForm(t, "\x02a\x00\x01"+one)
	}
}

// Cut anywhere, a key's bytes are a shorter key's, or none's.
func TestP1_3CutBytes(t *testing.T) {
	for _, k := range keys(2) {
		b := encode(t, k)
		for i := range b {
			checkForm(t, string(b[:i]))
		}
	}
}

func TestP1_4EncodeLeavesTheKey(t *testing.T) {
	room := []key.Part{key.Str("a\x00"), key.Num(3), key.Str("spare"), key.Num(9)}
	was := slices.Clone(room)
	first := encode(t, room[:2])
	again := encode(t, room[:2])
	fill(first)
	if !slices.Equal(room, was) {
		t.Errorf("Encode changed its key: %#v", room)
	}
	if !bytes.Equal(again, encode(t, was[:2])) {
		t.Errorf("two answers of Encode share memory")
	}
}

func TestP1_4DecodeLeavesTheBytes(t *testing.T) {
	room := append(encode(t, []key.Part{key.Str("a\x00b"), key.Num(3)}), "spare"...)
	was := bytes.Clone(room)
	in := room[:len(room)-len("spare")]
	first, _ := key.Decode(in)
	again, _ := key.Decode(in)
	want := slices.Clone(first)
	if !bytes.Equal(room, was) {
		t.Errorf("Decode changed its bytes: % x", room)
	}
	spare := first[:cap(first)]
	for i := range spare {
		spare[i] = key.Str("new")
	}
	fill(room)
	if !slices.Equal(again, want) {
		t.Errorf("an answer of Decode shares memory: %#v", again)
	}
}

func TestP1_4EndLeavesTheBytes(t *testing.T) {
	for _, s := range []string{"ab", "a\xff\xff", "a", "\xff"} {
		room := []byte(s + "spare")
		in := room[:len(s)]
		first := key.End(in)
		again := key.End(in)
		want := bytes.Clone(again)
		fill(first)
		if string(room) != s+"spare" {
			t.Errorf("End(% x) changed its bytes, or shares them: % x", s, room)
		}
		if !bytes.Equal(again, want) {
			t.Errorf("two answers of End(% x) share memory", s)
		}
	}
}

func TestP1_4CmpLeavesTheKeys(t *testing.T) {
	a := []key.Part{key.Str("b"), key.Num(3), key.Str("a")}
	b := []key.Part{key.Str("b"), key.Num(2), key.Str("c")}
	wasA, wasB := slices.Clone(a), slices.Clone(b)
	if key.Cmp(a[:2], b[:2]) != 1 || !slices.Equal(a, wasA) || !slices.Equal(b, wasB) {
		t.Errorf("Cmp changed its keys: %#v, %#v", a, b)
	}
}

// fill writes over bytes and over their spare room.
func fill(b []byte) {
	b = b[:cap(b)]
	for i := range b {
		b[i] = 0xEE
	}
}
