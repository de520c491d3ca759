package record_test

import (
	"encoding/binary"
	"fmt"
	"regexp"
	"slices"
	"strings"
	"testing"
	"unicode/utf8"

	"rhizome/api"
	"rhizome/record"
)

// What the chapter says, said anew: toldBytes is what Encode is to answer, toldRecord what Decode is.

var nameForm = regexp.MustCompile(`^[a-z]{1,16}$`)

func isNode(n int) bool { return 0 < n && n < 1001 }

func isValue(v api.Value) bool {
	switch v.Kind {
	case 1:
		return true
	case 2:
		return len(v.Text) < 65 && utf8.ValidString(v.Text)
	case 3:
		return v.Int == 0 || v.Int == 1
	}
	return false
}

// isInForm goes by what a change uses: its nodes, its name, its value.
func isInForm(c api.Change) bool {
	switch c.Kind {
	case 1, 2:
		return isNode(c.Node)
	case 3, 4:
		return isNode(c.Edge.From) && isNode(c.Edge.To) && nameForm.MatchString(c.Edge.Label)
	case 5, 6:
		return isNode(c.Node) && nameForm.MatchString(c.Key) && (c.Kind == 6 || isValue(c.Value))
	}
	return false
}

// plainChange is what a change uses, and nothing else.
func plainChange(c api.Change) api.Change {
	out := api.Change{Kind: c.Kind}
	switch c.Kind {
	case 3, 4:
		out.Edge = c.Edge
	case 5:
		out.Value = api.Value{Kind: c.Value.Kind, Int: c.Value.Int}
		if c.Value.Kind == 2 {
			out.Value = api.Value{Kind: 2, Text: c.Value.Text}
		}
		fallthrough
	case 6:
		out.Key = c.Key
		fallthrough
	default:
		out.Node = c.Node
	}
	return out
}

// plain is what a record uses, and nothing else.
func plain(r record.Record) record.Record {
	out := record.Record{Kind: r.Kind}
	switch r.Kind {
	case 1:
		for _, c := range r.Changes {
			out.Changes = append(out.Changes, plainChange(c))
		}
	case 2:
		out.View = r.View
	case 3:
		out.Name = r.Name
	}
	return out
}

func sameView(a, b api.View) bool {
	return a.Name == b.Name && a.Kind == b.Kind && a.Label == b.Label && slices.Equal(a.Out, b.Out) && slices.Equal(a.Atoms, b.Atoms)
}

// same takes a list that is nil and one that is empty for the same.
func same(a, b record.Record) bool {
	return a.Kind == b.Kind && a.Name == b.Name && slices.Equal(a.Changes, b.Changes) && sameView(a.View, b.View)
}

func oneByte(n int) string { return string([]byte{byte(n)}) }

func numPart(n int) string {
	return "\x01" + string(binary.BigEndian.AppendUint64(nil, uint64(n)^1<<63))
}

func textPart(s string) string {
	return "\x02" + strings.ReplaceAll(s, "\x00", "\x00\xff") + "\x00\x01"
}

// counted is a key's bytes, given its parts' ones, with how many they are ahead.
func counted(parts ...string) string {
	k := strings.Join(parts, "")
	return oneByte(len(k)) + k
}

func valueBytes(v api.Value) string {
	switch v.Kind {
	case 1:
		return "\x01" + string(binary.AppendVarint(nil, int64(v.Int)))
	case 2:
		return "\x02" + oneByte(len(v.Text)) + v.Text
	}
	return oneByte(v.Kind) + oneByte(v.Int)
}

// changeBytes are those of any change whose Kind is one, be it in form or not.
func changeBytes(c api.Change) string {
	kind := numPart(c.Kind)
	switch c.Kind {
	case 1, 2:
		return counted(kind, numPart(c.Node))
	case 3, 4:
		return counted(kind, numPart(c.Edge.From), textPart(c.Edge.Label), numPart(c.Edge.To))
	case 5:
		return counted(kind, numPart(c.Node), textPart(c.Key)) + valueBytes(c.Value)
	}
	return counted(kind, numPart(c.Node), textPart(c.Key))
}

// commitBytes are those of a commit of any changes whose Kinds are some.
func commitBytes(l ...api.Change) string {
	out := "\x01" + oneByte(len(l))
	for _, c := range l {
		out += changeBytes(c)
	}
	return out
}

// isView tells whether there is a view that is v.
func isView(v api.View) bool {
	names := []string{v.Name}
	var vars []string
	for _, a := range v.Atoms {
		names = append(names, a.Label)
		vars = append(vars, a.From, a.To)
	}
	names = append(names, vars...)
	switch v.Kind {
	case 1:
		for i, name := range v.Out {
			if slices.Index(v.Out, name) < i || !slices.Contains(vars, name) {
				return false
			}
		}
		if v.Label != "" || len(v.Out) == 0 || len(v.Out) > 6 || len(v.Atoms) == 0 || len(v.Atoms) > 8 {
			return false
		}
	case 2:
		names = append(names, v.Label)
		if len(v.Out)+len(v.Atoms) > 0 {
			return false
		}
	default:
		return false
	}
	return !slices.ContainsFunc(names, func(s string) bool { return !nameForm.MatchString(s) })
}

// viewText is a view's text.
func viewText(v api.View) string {
	if v.Kind == 2 {
		return fmt.Sprintf("view %s = reach %s;", v.Name, v.Label)
	}
	var atoms []string
	for _, a := range v.Atoms {
		atoms = append(atoms, fmt.Sprintf("%s(%s, %s)", a.Label, a.From, a.To))
	}
	return fmt.Sprintf("view %s(%s) = %s;", v.Name, strings.Join(v.Out, ", "), strings.Join(atoms, ", "))
}

// toldBytes is what Encode is to answer.
func toldBytes(r record.Record) (string, api.Errno) {
	out, ok := "", false
	switch r.Kind {
	case 1:
		ok = len(r.Changes) <= 60 && !slices.ContainsFunc(r.Changes, func(c api.Change) bool { return !isInForm(c) })
		if ok {
			out = commitBytes(r.Changes...)
		}
	case 2:
		ok = isView(r.View)
		if ok {
			out = "\x02" + viewText(r.View)
		}
	case 3:
		ok = nameForm.MatchString(r.Name)
		out = "\x03" + r.Name
	}
	switch {
	case !ok:
		return "", 1
	case len(out) > 4000:
		return "", 3
	}
	return out, 0
}

// source is bytes that are read; who reads what isn't there throws none.
type source struct{ rest string }

type none struct{}

func must(ok bool) {
	if !ok {
		panic(none{})
	}
}

func (s *source) take(n int) string {
	must(n <= len(s.rest))
	out := s.rest[:n]
	s.rest = s.rest[n:]
	return out
}

func (s *source) byte() int { return int(s.take(1)[0]) }

func (s *source) numPart() int {
	must(s.byte() == 1)
	return int(binary.BigEndian.Uint64([]byte(s.take(8))) ^ 1<<63)
}

// textPart ends at the first end of a text that there is: those that go on behind it are no names.
func (s *source) textPart() string {
	must(s.byte() == 2)
	out, _, ok := strings.Cut(s.rest, "\x00\x01")
	must(ok)
	s.take(len(out) + 2)
	return out
}

func (s *source) value() api.Value {
	v := api.Value{Kind: s.byte()}
	switch v.Kind {
	case 1:
		n, size := binary.Varint([]byte(s.rest))
		must(size > 0 && s.take(size) == string(binary.AppendVarint(nil, n)))
		v.Int = int(n)
	case 2:
		v.Text = s.take(s.byte())
	default:
		v.Int = s.byte()
	}
	must(isValue(v))
	return v
}

func (s *source) change() api.Change {
	size := s.byte()
	ahead := len(s.rest)
	c := api.Change{Kind: s.numPart()}
	switch c.Kind {
	case 3, 4:
		c.Edge.From = s.numPart()
		c.Edge.Label = s.textPart()
		c.Edge.To = s.numPart()
	case 5, 6:
		c.Node = s.numPart()
		c.Key = s.textPart()
	default:
		c.Node = s.numPart()
	}
	must(ahead-len(s.rest) == size)
	if c.Kind == 5 {
		c.Value = s.value()
	}
	must(isInForm(c))
	return c
}

var (
	patternForm = regexp.MustCompile(`^view ([a-z]+)\(([a-z, ]+)\) = (([a-z]+\([a-z]+, [a-z]+\)(, )?)+);$`)
	reachForm   = regexp.MustCompile(`^view ([a-z]+) = reach ([a-z]+);$`)
	atomForm    = regexp.MustCompile(`([a-z]+)\(([a-z]+), ([a-z]+)\)`)
)

// viewOf is the view that has a text just as Show tells it.
func viewOf(text string) api.View {
	var v api.View
	if m := reachForm.FindStringSubmatch(text); m != nil {
		v = api.View{Name: m[1], Kind: 2, Label: m[2]}
	}
	if m := patternForm.FindStringSubmatch(text); m != nil {
		v = api.View{Name: m[1], Kind: 1, Out: strings.Split(m[2], ", ")}
		for _, a := range atomForm.FindAllStringSubmatch(m[3], -1) {
			v.Atoms = append(v.Atoms, api.Atom{From: a[2], Label: a[1], To: a[3]})
		}
	}
	must(isView(v) && viewText(v) == text)
	return v
}

func (s *source) record() record.Record {
	r := record.Record{Kind: s.byte()}
	switch r.Kind {
	case 1:
		count := s.byte()
		must(count <= 60)
		for range count {
			r.Changes = append(r.Changes, s.change())
		}
		must(s.rest == "")
	case 2:
		r.View = viewOf(s.rest)
	default:
		must(r.Kind == 3 && nameForm.MatchString(s.rest))
		r.Name = s.rest
	}
	return r
}

// toldRecord is what Decode is to answer.
func toldRecord(b string) (r record.Record, e api.Errno) {
	if len(b) > 4000 {
		return record.Record{}, 3
	}
	defer func() {
		if thrown := recover(); thrown != nil {
			_ = thrown.(none)
			r, e = record.Record{}, 6
		}
	}()
	return (&source{b}).record(), 0
}

// brief is the beginning of bytes, with how many they are.
func brief(b string) string { return fmt.Sprintf("% .60x, in all %d", b, len(b)) }

// told is the beginning of a record, or of a change.
func told(of any) string {
	s := fmt.Sprintf("%+v", of)
	if len(s) > 400 {
		return s[:400] + " and more"
	}
	return s
}

// checkRecord holds Form, Encode, and Decode of the bytes, to what is told of r; it answers the bytes.
func checkRecord(t *testing.T, r record.Record) string {
	t.Helper()
	for _, c := range r.Changes {
		checkForm(t, c)
	}
	want, e := toldBytes(r)
	got, gotE := record.Encode(r)
	if string(got) != want || gotE != e {
		t.Fatalf("Encode(%s): %s, %d; want %s, %d", told(r), brief(string(got)), gotE, brief(want), e)
	}
	if e != api.OK {
		return ""
	}
	if again := checkBytes(t, want); !same(again, plain(r)) {
		t.Fatalf("%s is decoded to %s", told(r), told(again))
	}
	return want
}

// checkBytes holds Decode, and Encode of the record, to what is told of b; it answers the record.
func checkBytes(t *testing.T, b string) record.Record {
	t.Helper()
	want, e := toldRecord(b)
	got, gotE := record.Decode([]byte(b))
	if !same(got, want) || gotE != e {
		t.Fatalf("Decode(%s): %s, %d; want %s, %d", brief(b), told(got), gotE, told(want), e)
	}
	if e != api.OK {
		return record.Record{}
	}
	if again, e := record.Encode(got); string(again) != b || e != api.OK {
		t.Fatalf("%s is encoded to %s, %d; it was %s", told(got), brief(string(again)), e, brief(b))
	}
	return got
}

// checkForm holds Form to what is told of c.
func checkForm(t *testing.T, c api.Change) {
	t.Helper()
	want := api.Errno(1)
	if isInForm(c) {
		want = 0
	}
	if e := record.Form(c); e != want {
		t.Fatalf("Form(%s): %d, want %d", told(c), e, want)
	}
}

// refused holds Decode to an error, and to what is told.
func refused(t *testing.T, b string, e api.Errno) {
	t.Helper()
	checkBytes(t, b)
	if r, got := record.Decode([]byte(b)); got != e || !same(r, record.Record{}) {
		t.Errorf("Decode(%s): %s, %d; want %d", brief(b), told(r), got, e)
	}
}

// notEncoded holds Encode to an error, and to what is told.
func notEncoded(t *testing.T, r record.Record, e api.Errno) {
	t.Helper()
	checkRecord(t, r)
	if b, got := record.Encode(r); got != e || len(b) != 0 {
		t.Errorf("Encode(%s): %s, %d; want %d", told(r), brief(string(b)), got, e)
	}
}

// stands holds Encode and Decode to just these bytes of a record, and to what is told.
func stands(t *testing.T, r record.Record, want string) {
	t.Helper()
	checkRecord(t, r)
	if b, e := record.Encode(r); e != api.OK || string(b) != want {
		t.Errorf("Encode(%s): % x, %d; want % x", told(r), b, e, want)
	}
	if got, e := record.Decode([]byte(want)); e != api.OK || !same(got, plain(r)) {
		t.Errorf("Decode(% x): %s, %d; want %s", want, told(got), e, told(plain(r)))
	}
}
