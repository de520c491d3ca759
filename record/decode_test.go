package record_test

import (
	"math"
	"math/rand"
	"strings"
	"testing"

	"rhizome/api"
	"rhizome/record"
)

// bytesOf are a record's, of which there is one.
func bytesOf(t *testing.T, r record.Record) string {
	t.Helper()
	b := checkRecord(t, r)
	if b == "" {
		t.Fatalf("%s is refused", told(r))
	}
	return b
}

func TestP15_1DecodeNothing(t *testing.T) {
	refused(t, "", api.ErrForm)
	if r, e := record.Decode(nil); e != api.ErrForm || !same(r, record.Record{}) {
		t.Errorf("nil: %s, %d", told(r), e)
	}
	refused(t, "\x01", api.ErrForm)
	refused(t, "\x02", api.ErrForm)
	refused(t, "\x03", api.ErrForm)
}

func TestP15_1DecodeKinds(t *testing.T) {
	for kind := range 256 {
		for _, rest := range []string{"", "\x00", "f", "view r = reach k;", "\x01" + changeBytes(node(1))} {
			b := oneByte(kind) + rest
			checkBytes(t, b)
			if kind < 1 || kind > 3 {
				refused(t, b, api.ErrForm)
			}
		}
	}
}

// TestP15_1DecodeLong has bytes that are too many, be they like a record's or not.
func TestP15_1DecodeLong(t *testing.T) {
	for size := 3900; size <= 4200; size++ {
		b := commitBytes(sized(t, size).Changes...)
		if size > api.MaxRecord {
			refused(t, b, api.ErrLong)
			continue
		}
		if got := checkBytes(t, b); len(got.Changes) == 0 {
			t.Errorf("%d bytes: %s", size, told(got))
		}
		if size == api.MaxRecord {
			refused(t, b+"\x00", api.ErrLong)
			refused(t, b[:size-1], api.ErrForm)
		}
	}
	for _, c := range []string{"\x00", "\x01", "\x02", "\x03", "a", "\xff"} {
		refused(t, strings.Repeat(c, 4000), api.ErrForm)
		refused(t, strings.Repeat(c, 4001), api.ErrLong)
		refused(t, strings.Repeat(c, 1<<20), api.ErrLong)
	}
	refused(t, "\x03"+strings.Repeat("a", 3999), api.ErrForm)
	refused(t, "\x03"+strings.Repeat("a", 4000), api.ErrLong)
	refused(t, "\x02view r = reach k;"+strings.Repeat(" ", 3982), api.ErrForm)
	refused(t, "\x02view r = reach k;"+strings.Repeat(" ", 3983), api.ErrLong)
}

// TestP15_1DecodeCuts has the samples' bytes cut anywhere, with a byte more behind, and without each of theirs.
func TestP15_1DecodeCuts(t *testing.T) {
	for _, r := range samples() {
		b := bytesOf(t, r)
		for n := range len(b) {
			checkBytes(t, b[:n])
			checkBytes(t, b[n:])
			checkBytes(t, b[:n]+b[n+1:])
			if r.Kind != record.Drop {
				refused(t, b[:n], api.ErrForm)
			}
		}
		for c := range 256 {
			checkBytes(t, b+oneByte(c))
			if r.Kind != record.Drop {
				refused(t, b+oneByte(c), api.ErrForm)
			}
		}
		for _, other := range samples() {
			checkBytes(t, b+bytesOf(t, other))
			checkBytes(t, b+bytesOf(t, other)[1:])
		}
	}
}

// TestP15_1DecodeEachByte has each byte of the samples in place of each byte there is, and each ahead of it.
func TestP15_1DecodeEachByte(t *testing.T) {
	for _, r := range samples() {
		b := bytesOf(t, r)
		for at := range min(len(b), 150) {
			for c := range 256 {
				checkBytes(t, b[:at]+oneByte(c)+b[at+1:])
				checkBytes(t, b[:at]+oneByte(c)+b[at:])
			}
		}
	}
}

func TestP15_1DecodeCounts(t *testing.T) {
	for n := range 256 {
		for _, c := range []api.Change{node(1), noProp(7, "k"), prop(1, "k", num(1))} {
			b := strings.Repeat(changeBytes(c), n)
			for _, count := range []int{0, n - 1, n, n + 1, 255} {
				if len(b)+2 <= api.MaxRecord && (count != n || n > api.MaxChange) {
					refused(t, "\x01"+oneByte(count)+b, api.ErrForm)
				}
				checkBytes(t, "\x01"+oneByte(count)+b)
			}
		}
		refused(t, "\x01"+oneByte(n)+strings.Repeat("\x00", n+1), api.ErrForm)
	}
	if got := checkBytes(t, commitBytes(times(60, node(1))...)); len(got.Changes) != 60 {
		t.Errorf("60 changes: %d", len(got.Changes))
	}
	refused(t, commitBytes(times(61, node(1))...), api.ErrForm)
}

// TestP15_1DecodeShort has all bytes of up to two, and all of up to four of some pieces behind a Kind.
func TestP15_1DecodeShort(t *testing.T) {
	for a := range 256 {
		checkBytes(t, oneByte(a))
		for b := range 256 {
			checkBytes(t, oneByte(a)+oneByte(b))
		}
	}
	pieces := []string{"\x00", "\x01", "\x02", "\x12", "a", "\xff", numPart(1), numPart(3), numPart(5), textPart("a"), "view a", " = reach a;", changeBytes(node(1)), changeBytes(noProp(1, "k"))}
	var goOn func(b string, most int)
	goOn = func(b string, most int) {
		checkBytes(t, b)
		if most == 0 {
			return
		}
		for _, p := range pieces {
			goOn(b+p, most-1)
		}
	}
	for _, kind := range []string{"\x01", "\x02", "\x03"} {
		goOn(kind, 4)
	}
}

// TestP15_1DecodeChangesNotInForm has the bytes that such changes would have.
func TestP15_1DecodeChangesNotInForm(t *testing.T) {
	wrong := 0
	for _, c := range notInForm() {
		for _, b := range []string{commitBytes(c), commitBytes(node(1), c), commitBytes(c, node(1))} {
			if len(b) > api.MaxRecord {
				continue
			}
			if checkBytes(t, b).Kind == 0 {
				wrong++
			}
		}
	}
	if wrong < 400 {
		t.Errorf("of so many bytes just %d are refused", wrong)
	}
	for _, n := range []int{0, 1001, -1, math.MinInt, math.MaxInt} {
		refused(t, commitBytes(node(n)), api.ErrForm)
		refused(t, commitBytes(noNode(n)), api.ErrForm)
		refused(t, commitBytes(edge(n, "a", 1)), api.ErrForm)
		refused(t, commitBytes(noEdge(1, "a", n)), api.ErrForm)
		refused(t, commitBytes(prop(n, "k", num(1))), api.ErrForm)
		refused(t, commitBytes(noProp(n, "k")), api.ErrForm)
	}
	for _, s := range []string{"", "A", "abcdefghijklmnopq", "\x00", "a\x00", "é"} {
		refused(t, commitBytes(edge(1, s, 2)), api.ErrForm)
		refused(t, commitBytes(noEdge(1, s, 2)), api.ErrForm)
		refused(t, commitBytes(prop(1, s, num(1))), api.ErrForm)
		refused(t, commitBytes(noProp(1, s)), api.ErrForm)
	}
}

// TestP15_1DecodeKeys has keys that are no change's, and such as aren't as long as it is told.
func TestP15_1DecodeKeys(t *testing.T) {
	one := func(parts ...string) string { return "\x01\x01" + counted(parts...) }
	for _, kind := range []int{math.MinInt, -1, 0, 7, 8, 256, 257, 1<<32 + 1, math.MaxInt} {
		refused(t, one(numPart(kind), numPart(1)), api.ErrForm)
		refused(t, one(numPart(kind), numPart(1), textPart("k")), api.ErrForm)
		refused(t, one(numPart(kind), numPart(1), textPart("k"), numPart(1)), api.ErrForm)
		refused(t, one(numPart(kind)), api.ErrForm)
	}
	parts := []string{numPart(1), numPart(2), textPart("k"), textPart("\x01"), textPart("")}
	for kind := 1; kind <= 6; kind++ {
		var goOn func(l []string)
		goOn = func(l []string) {
			checkBytes(t, one(l...))
			checkBytes(t, one(l...)+"\x01\x02")
			if len(l) == 5 {
				return
			}
			for _, p := range parts {
				goOn(append(l[:len(l):len(l)], p))
			}
		}
		goOn([]string{numPart(kind)})
		goOn([]string{textPart(oneByte(kind))})
	}
	refused(t, one(), api.ErrForm)
	refused(t, one(numPart(1), numPart(1), numPart(1)), api.ErrForm)
	refused(t, one(textPart("\x01"), numPart(1)), api.ErrForm)
	refused(t, one(numPart(1), textPart("k")), api.ErrForm)
	refused(t, one(numPart(3), numPart(1), numPart(1), textPart("k")), api.ErrForm)
	refused(t, one(numPart(3), numPart(1), textPart("k")), api.ErrForm)
	refused(t, one(numPart(6), numPart(1), textPart("k"), numPart(1)), api.ErrForm)
	refused(t, one(numPart(6), textPart("k"), numPart(1)), api.ErrForm)
}

// TestP15_1DecodeKeysLengths has, for each Kind, a number ahead of the key that isn't that of its bytes.
func TestP15_1DecodeKeysLengths(t *testing.T) {
	for _, c := range eachKind() {
		b := changeBytes(c)
		for n := range 256 {
			if n != int(b[0]) {
				refused(t, "\x01\x01"+oneByte(n)+b[1:], api.ErrForm)
				refused(t, "\x01\x02"+oneByte(n)+b[1:]+changeBytes(node(1)), api.ErrForm)
			}
		}
	}
	for n := range 200 { // keys of up to 255 bytes, that are there whole
		k := numPart(6) + numPart(1) + textPart(strings.Repeat("k", n))
		if len(k) <= 255 {
			checkBytes(t, "\x01\x01"+oneByte(len(k))+k)
		}
	}
	for n := range 256 {
		refused(t, "\x01\x01"+oneByte(n)+strings.Repeat("\x01", 300), api.ErrForm)
	}
}

func TestP15_1DecodeValues(t *testing.T) {
	ahead := "\x01\x01" + counted(numPart(5), numPart(1), textPart("k"))
	for _, v := range values() {
		if got := checkBytes(t, ahead+valueBytes(v)); len(got.Changes) != 1 || got.Changes[0] != prop(1, "k", v) {
			t.Errorf("%s: %s", told(v), told(got))
		}
		for _, other := range eachKind()[:6] { // no other Kind has a value
			refused(t, "\x01\x01"+changeBytes(other)+valueBytes(v), api.ErrForm)
		}
	}
	for _, b := range []string{
		"", "\x00", "\x00\x00", "\x01", "\x01\x80", "\x01\x80\x00", "\x01\x80\x80\x00", "\x01\xff\xff\xff\xff\xff\xff\xff\xff\xff\x02", "\x01\xff\xff\xff\xff\xff\xff\xff\xff\xff\x81\x00", "\x01\x00\x00",
		"\x02", "\x02\x01", "\x02\x02a", "\x02\x00a", "\x02\x01\xff", "\x02\x02\xc3(", "\x02\x41" + strings.Repeat("x", 65), "\x02\xff" + strings.Repeat("x", 255),
		"\x03", "\x03\x02", "\x03\xff", "\x03\x01\x00", "\x04\x00", "\xff\x00",
	} {
		refused(t, ahead+b, api.ErrForm)
	}
	for a := range 256 {
		for b := range 256 {
			checkBytes(t, ahead+oneByte(a)+oneByte(b))
			checkBytes(t, ahead+oneByte(a)+oneByte(b)+"\x00")
			checkBytes(t, ahead+oneByte(a)+oneByte(b)+"ab")
		}
	}
}

// TestP15_1DecodeTexts has texts of definitions, of which just those are a record's that Show tells.
func TestP15_1DecodeTexts(t *testing.T) {
	for _, text := range []string{
		"", " ", ";", "view", "view r", "view r = reach k", "view r = reach k; ", " view r = reach k;", "view r = reach k;\n", "view  r = reach k;", "view r= reach k;", "view r =reach k;", "view r = reach k ;", "view r=reach k;",
		"view r \u2190 reach k;", "view r = reach k;#", "#\nview r = reach k;", "view r = reach\tk;", "view r = reach\u00a0k;", "view r = reach k;\x00", "view r = reach k;\xff", "view r = reach k;;", "view r = reach k; view r = reach k;",
		"view R = reach k;", "view r = reach ;", "view r = reach abcdefghijklmnopq;", "view r = Reach k;", "View r = reach k;", "view r = k;",
		"view f(x) = k(x,y);", "view f(x)= k(x, y);", "view f(x) =k(x, y);", "view f (x) = k(x, y);", "view f(x ) = k(x, y);", "view f( x) = k(x, y);", "view f(x,y) = k(x, y);", "view f(x , y) = k(x, y);", "view f(x, y) = k(x, y),k(y, x);", "view f(x) = k(x, y)\u2227 k(y, x);",
		"view f(x, x) = k(x, y);", "view f(q) = k(x, y);", "view f() = k(x, y);", "view f(x) = ;", "view f(x) = k(x);", "view f(x) = k(x, y)", "view f(x) = k(x, y),;", "view f(x) = reach k;",
		"view f(a, b, c, d, e, f, g) = k(a, b), k(c, d), k(e, f), k(g, g);", "view f(x) = " + strings.Repeat("k(x, y), ", 8) + "k(x, y);", "view r = reach k;" + strings.Repeat(" ", 1007), "view r = reach k;" + strings.Repeat(" ", 1008),
	} {
		refused(t, "\x02"+text, api.ErrForm)
	}
	for _, text := range []string{"view r = reach k;", "view view = reach reach;", "view f(x) = k(x, y);", "view f(x, y) = k(x, y), k(y, x);", "view f(x) = " + strings.Repeat("k(x, y), ", 7) + "k(x, y);", "view f(a, b, c, d, e, f) = k(a, b), k(c, d), k(e, f);"} {
		if got := checkBytes(t, "\x02"+text); got.Kind != record.Define || viewText(got.View) != text {
			t.Errorf("%q: %s", text, told(got))
		}
	}
}

// TestP15_1DecodeRandomFaults has records' bytes with some of them changed, taken away, or from another record.
func TestP15_1DecodeRandomFaults(t *testing.T) {
	r := rand.New(rand.NewSource(152))
	sound := 0
	for range 6000 {
		b, _ := toldBytes(drawn(r))
		other, _ := toldBytes(drawn(r))
		for range 1 + r.Intn(2) {
			at := r.Intn(len(b) + 1)
			switch r.Intn(5) {
			case 0:
				b = b[:at]
			case 1:
				b = b[:at] + oneByte(r.Intn(256)) + b[at:]
			case 2:
				b = b[:at] + b[min(at+1, len(b)):]
			case 3:
				b = b[:at] + oneByte(r.Intn(8)) + b[min(at+1, len(b)):]
			default:
				b = b[:at] + other[r.Intn(len(other)+1):]
			}
		}
		if checkBytes(t, b).Kind > 0 {
			sound++
		}
	}
	if sound < 50 {
		t.Errorf("of all just %d are a record's", sound)
	}
}
