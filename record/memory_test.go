package record_test

import (
	"fmt"
	"math/rand"
	"strings"
	"testing"
	"unsafe"

	"rhizome/api"
	"rhizome/record"
)

// spoil changes all that a list has, spare room too.
func spoil[T any](l []T, with T) {
	l = l[:cap(l)]
	for i := range l {
		l[i] = with
	}
}

func spoilRecord(r record.Record) {
	spoil(r.Changes, api.Change{Kind: 9, Node: 99, Key: "spoilt"})
	spoil(r.View.Out, "spoilt")
	spoil(r.View.Atoms, api.Atom{From: "spoilt", Label: "spoilt", To: "spoilt"})
}

// roomy is a list like l, with spare room in which something stands.
func roomy[T any](l []T, spare ...T) []T {
	return append(append(make([]T, 0, len(l)+len(spare)), l...), spare...)[:len(l)]
}

// roomyRecord has lists of its own, with spare room.
func roomyRecord(r record.Record) record.Record {
	r.Changes = roomy(r.Changes, node(1), edge(1, "a", 2))
	r.View.Out = roomy(r.View.Out, "spare", "room")
	r.View.Atoms = roomy(r.View.Atoms, api.Atom{From: "x", Label: "spare", To: "room"})
	return r
}

// whole is all that a record has, spare room too.
func whole(r record.Record) string {
	return fmt.Sprintf("%+v", []any{r, r.Changes[:cap(r.Changes)], r.View.Out[:cap(r.View.Out)], r.View.Atoms[:cap(r.View.Atoms)]})
}

// handed are records that are handed in: such as are, and such as aren't.
func handed() []record.Record {
	out := samples()
	for _, c := range notInForm() {
		out = append(out, commit(node(1), c))
	}
	for _, c := range eachKind() {
		out = append(out, commit(unused(c)...))
	}
	full := record.Record{Changes: times(61, node(1)), View: longest(), Name: "abc"}
	for kind := range 5 {
		full.Kind = kind
		out = append(out, full)
	}
	return append(out, define(pattern("f", "q q", "k x y")), define(api.View{}), commit(times(60, prop(1, "k", text(strings.Repeat("x", 64))))...))
}

func TestP15_3WhatIsEncodedStays(t *testing.T) {
	for _, r := range handed() {
		in := roomyRecord(r)
		was := whole(in)
		first, e := record.Encode(in)
		for _, c := range in.Changes {
			record.Form(c)
		}
		spoil(first, 0xEE)
		if whole(in) != was {
			t.Errorf("%s, was %s", whole(in), was)
		}
		want, wantE := toldBytes(r)
		if second, e2 := record.Encode(in); string(second) != want || e2 != wantE || e != wantE {
			t.Errorf("%s: %s, %d", told(r), brief(string(second)), e2)
		}
	}
}

func TestP15_3WhatIsDecodedStays(t *testing.T) {
	var all []string
	for _, r := range handed() {
		if b, e := toldBytes(r); e == api.OK {
			all = append(all, b, b[:len(b)-1], b+"\x00")
		}
	}
	for _, b := range append(all, "", "\x01\x00", strings.Repeat("a", 4000), strings.Repeat("a", 4001)) {
		in := roomy([]byte(b), 1, 0x12, 'a')
		was := string(in[:cap(in)])
		first, _ := record.Decode(in)
		want, wantE := toldRecord(b)
		spoilRecord(first)
		if string(in[:cap(in)]) != was {
			t.Errorf("% x, was % x", in[:cap(in)], was)
		}
		if second, e := record.Decode(in); !same(second, want) || e != wantE {
			t.Errorf("Decode(%s): %s, %d", brief(b), told(second), e)
		}
	}
}

// TestP15_3WhatWasDecodedMayBeChanged spoils the bytes behind a call.
func TestP15_3WhatWasDecodedMayBeChanged(t *testing.T) {
	r := rand.New(rand.NewSource(157))
	hold := func(one record.Record) {
		t.Helper()
		b, e := toldBytes(one)
		if e != api.OK {
			return
		}
		in := roomy([]byte(b), 'x', 'y')
		got, _ := record.Decode(in)
		spoil(in, 'q')
		if !same(got, plain(one)) {
			t.Fatalf("%s, was %s", told(got), told(plain(one)))
		}
	}
	for _, one := range samples() {
		hold(one)
	}
	for range 500 {
		hold(drawn(r))
	}
}

// TestP15_3WhatWasEncodedMayBeChanged spoils the record behind a call.
func TestP15_3WhatWasEncodedMayBeChanged(t *testing.T) {
	r := rand.New(rand.NewSource(158))
	for range 500 {
		one := drawn(r)
		want, _ := toldBytes(one)
		in := roomyRecord(one)
		b, _ := record.Encode(in)
		spoilRecord(in)
		if string(b) != want {
			t.Fatalf("%s, was %s", brief(string(b)), brief(want))
		}
	}
}

// TestP15_3AnswersShareNothing spoils an answer, and holds those of the same call made ahead of that and behind it.
func TestP15_3AnswersShareNothing(t *testing.T) {
	for _, one := range samples() {
		want, _ := toldBytes(one)
		a, _ := record.Encode(one)
		b, _ := record.Encode(one)
		spoil(a, 0xEE)
		if string(b) != want {
			t.Fatalf("an earlier one: %s, was %s", brief(string(b)), brief(want))
		}
		c, _ := record.Encode(one)
		spoil(b, 0xEE)
		if string(c) != want {
			t.Fatalf("a later one: %s, was %s", brief(string(c)), brief(want))
		}
		u, _ := record.Decode(c)
		v, _ := record.Decode(c)
		spoilRecord(u)
		if !same(v, plain(one)) || string(c) != want {
			t.Fatalf("an earlier one: %s, was %s", told(v), told(one))
		}
		w, _ := record.Decode(c)
		spoilRecord(v)
		if !same(w, plain(one)) || string(c) != want {
			t.Fatalf("a later one: %s, was %s", told(w), told(one))
		}
	}
}

// TestP15_3AnEarlierAnswerStays has answers that later calls leave as they are.
func TestP15_3AnEarlierAnswerStays(t *testing.T) {
	var encoded [][]byte
	var decoded []record.Record
	for _, one := range samples() {
		b, _ := record.Encode(one)
		r, _ := record.Decode(b)
		encoded = append(encoded, b)
		decoded = append(decoded, r)
	}
	for i, one := range samples() {
		if want, _ := toldBytes(one); string(encoded[i]) != want || !same(decoded[i], plain(one)) {
			t.Errorf("%s, %s, was %s", brief(string(encoded[i])), told(decoded[i]), told(one))
		}
	}
}

// TestP15_3NoTwoListsOfAnAnswerShare spoils one list of an answer, and holds the other.
func TestP15_3NoTwoListsOfAnAnswerShare(t *testing.T) {
	b := bytesOf(t, define(longest()))
	r, _ := record.Decode([]byte(b))
	spoil(r.View.Out, "spoilt")
	r.View.Out = longest().Out
	if !sameView(r.View, longest()) {
		t.Errorf("%s", told(r.View))
	}
	spoil(r.View.Atoms, api.Atom{})
	if r.View.Atoms = longest().Atoms; !sameView(r.View, longest()) {
		t.Errorf("%s", told(r.View))
	}
}

// lent is a text whose bytes the test changes later.
func lent(s string) (string, []byte) {
	b := []byte(s)
	return unsafe.String(&b[0], len(b)), b
}

func TestP15_3NoTextIsShared(t *testing.T) {
	s, of := lent("name")
	records := []record.Record{commit(edge(1, s, 2), prop(1, s, text(s)), noProp(1, s)), define(reach(s, s)), define(pattern(s, s, s+" "+s+" "+s)), drop(s)}
	var got []string
	for _, r := range records {
		b, _ := record.Encode(r)
		got = append(got, string(b))
	}
	want := []string{
		commitBytes(edge(1, "name", 2), prop(1, "name", text("name")), noProp(1, "name")),
		"\x02view name = reach name;", "\x02view name(name) = name(name, name);", "\x03name",
	}
	copy(of, "qqqq")
	for i := range got {
		if got[i] != want[i] {
			t.Errorf("%q, want %q", got[i], want[i])
		}
	}
}
