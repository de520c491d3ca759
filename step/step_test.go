package step_test

import (
	"fmt"
	"testing"
	"unsafe"

	"rhizome/api"
	"rhizome/query"
	"rhizome/step"
)

func stepsOf(t *testing.T, s string) []step.Step {
	t.Helper()
	v, _, _, e := query.Parse(s)
	if e != api.OK {
		t.Fatal(s)
	}
	return step.Of(v)
}

// TestP11_1Steps has, of each step, the edges that fit, what the rows ahead tell of one, and the rows behind.
func TestP11_1Steps(t *testing.T) {
	edges := []api.Edge{{From: 1, Label: "a", To: 2}, {From: 3, Label: "a", To: 3}, {From: 5, Label: "b", To: 1}}
	for _, c := range []struct {
		s    string
		told []string
	}{
		{"view f(x) = a(x, y);", []string{"[{1 2} {3 3}] {0 0} {0 0} [7 8]"}},
		{"view f(x) = a(x, x);", []string{"[{3 3}] {0 0} {0 0} [7]"}},
		{"view f(x) = c(x, y);", []string{"[] {0 0} {0 0} [7 8]"}},
		{"view f(x) = a(x, y), b(y, z);", []string{"[{1 2} {3 3}] {0 0} {0 0} [7 8]", "[{5 1}] {7 0} {8 0} [7 8 8]"}},
		{"view f(x) = a(x, y), b(z, x);", []string{"[{1 2} {3 3}] {0 0} {0 0} [7 8]", "[{5 1}] {0 8} {0 7} [7 8 7]"}},
		{"view f(x) = a(x, y), b(y, x);", []string{"[{1 2} {3 3}] {0 0} {0 0} [7 8]", "[{5 1}] {7 8} {8 7} [7 8]"}},
		{"view f(x) = b(x, x), a(z, y);", []string{"[] {0 0} {0 0} [7]", "[{1 2} {3 3}] {0 0} {0 0} [7 7 8]"}},
		{"view f(x) = b(x, x), a(y, y);", []string{"[] {0 0} {0 0} [7]", "[{3 3}] {0 0} {0 0} [7 7]"}},
	} {
		var row api.Tuple
		for i, s := range stepsOf(t, c.s) {
			e := step.Ends{From: 7, To: 8}
			told := fmt.Sprint(s.Fitting(edges), s.Told(e), s.Tells(row))
			row = s.With(row, e)
			if told = fmt.Sprint(told, " ", row); told != c.told[i] {
				t.Errorf("%s, %d: %s, want %s", c.s, i, told, c.told[i])
			}
		}
	}
}

// TestP11_3Steps has what is handed in stay, and be changed behind the call.
func TestP11_3Steps(t *testing.T) {
	b := []byte("a")
	v, _, _, _ := query.Parse("view f(x) = a(x, y), a(y, z);")
	v.Atoms[0].Label = unsafe.String(&b[0], 1)
	l := step.Of(v)
	b[0] = 'b'
	if got := l[0].Fitting([]api.Edge{{From: 1, Label: "a", To: 2}}); len(got) != 1 {
		t.Errorf("%v", got)
	}
	row := append(make(api.Tuple, 0, 9), 1, 2)
	first, second := l[1].With(row, step.Ends{From: 2, To: 3}), l[1].With(row, step.Ends{From: 2, To: 4})
	row[0] = 9
	if got := fmt.Sprint(row, first, second); got != "[9 2] [1 2 3] [1 2 4]" {
		t.Errorf("%s", got)
	}
}
