package record_test

import (
	"math/rand"
	"testing"

	"rhizome/api"
	"rhizome/record"
)

// again decodes what r is encoded to.
func again(t *testing.T, r record.Record) (record.Record, bool) {
	t.Helper()
	b, e := record.Encode(r)
	if e == api.ErrLong {
		return record.Record{}, false
	}
	if e != api.OK {
		t.Fatalf("Encode(%s): %d", told(r), e)
	}
	out, e := record.Decode(b)
	if e != api.OK {
		t.Fatalf("Decode(%s), of %s: %d", brief(string(b)), told(r), e)
	}
	return out, true
}

// TestP15_2DrawnRecords has what is encoded decoded to the same, but for what its Kind doesn't use.
func TestP15_2DrawnRecords(t *testing.T) {
	r := rand.New(rand.NewSource(153))
	long, of := 0, [4]int{}
	for range 8000 {
		one := drawn(r)
		checkRecord(t, one)
		got, ok := again(t, one)
		if !ok {
			long++
			continue
		}
		of[one.Kind]++
		if !same(got, plain(one)) {
			t.Fatalf("%s is decoded to %s", told(one), told(got))
		}
	}
	if long < 100 || of[1] < 1000 || of[2] < 1000 || of[3] < 1000 {
		t.Errorf("%d, %v", long, of)
	}
}

// TestP15_2DrawnBytes has bytes that are decoded encoded to the same.
func TestP15_2DrawnBytes(t *testing.T) {
	r := rand.New(rand.NewSource(154))
	for range 4000 {
		b, e := toldBytes(drawn(r))
		if e != api.OK {
			continue
		}
		got, e := record.Decode([]byte(b))
		if e != api.OK {
			t.Fatalf("Decode(%s): %d", brief(b), e)
		}
		if out, e := record.Encode(got); e != api.OK || string(out) != b {
			t.Fatalf("Encode(%s): %s, %d; it was %s", told(got), brief(string(out)), e, brief(b))
		}
	}
}

// TestP15_2Beginnings has each beginning of a commit's bytes, and of a definition's.
func TestP15_2Beginnings(t *testing.T) {
	r := rand.New(rand.NewSource(155))
	for range 300 {
		one := drawn(r)
		if one.Kind == record.Drop {
			continue
		}
		b, e := record.Encode(one)
		if e != api.OK {
			continue
		}
		for n := range len(b) {
			if got, e := record.Decode(b[:n:n]); e != api.ErrForm || !same(got, record.Record{}) {
				t.Fatalf("the first %d of %s: %s, %d", n, brief(string(b)), told(got), e)
			}
		}
	}
	b, _ := record.Encode(sized(t, api.MaxRecord))
	for n := range len(b) {
		if _, e := record.Decode(b[:n]); e != api.ErrForm {
			t.Fatalf("the first %d of %s: %d", n, brief(string(b)), e)
		}
	}
}

// TestP15_2ACommitsBytesGoOn has no commit's bytes begin with another one's.
func TestP15_2ACommitsBytesGoOn(t *testing.T) {
	for _, c := range append(eachKind(), eachKind()...) {
		var l []api.Change
		for range 8 {
			b := bytesOf(t, commit(l...))
			l = append(l, c)
			refused(t, b+bytesOf(t, commit(l...))[2:], api.ErrForm)
			refused(t, b+changeBytes(c), api.ErrForm)
		}
	}
}

// TestP15_2ADropsBeginningMayBeADrop has what the promise doesn't speak of.
func TestP15_2ADropsBeginningMayBeADrop(t *testing.T) {
	b := bytesOf(t, drop("abcdefghijklmnop"))
	for n := 2; n <= len(b); n++ {
		if got := checkBytes(t, b[:n]); got.Name != "abcdefghijklmnop"[:n-1] {
			t.Errorf("%q: %s", b[:n], told(got))
		}
	}
}

// TestP15_2OfOtherBytesNothing has drawn bytes, of which few are a record's.
func TestP15_2OfOtherBytesNothing(t *testing.T) {
	r := rand.New(rand.NewSource(156))
	for range 20000 {
		b := make([]byte, r.Intn(60))
		for i := range b {
			b[i] = []byte{0, 1, 2, 3, 5, 0x12, 0x80, 'a', 0xff, byte(r.Intn(256))}[r.Intn(10)]
		}
		checkBytes(t, string(b))
	}
}
