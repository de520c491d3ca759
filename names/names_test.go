package names_test

import (
	"strings"
	"testing"

	"rhizome/names"
)

// TestP9_1Names has texts of each length, and each byte at each place.
func TestP9_1Names(t *testing.T) {
	for n := range 300 {
		if got := names.Is(strings.Repeat("m", n)); got != (n >= 1 && n <= 16) {
			t.Errorf("%d letters: %v", n, got)
		}
	}
	for c := range 256 {
		for n := 1; n <= 16; n++ {
			for at := range n {
				b := []byte(strings.Repeat("m", n))
				b[at] = byte(c)
				if got := names.Is(string(b)); got != (c >= 97 && c <= 122) {
					t.Fatalf("%q: %v", b, got)
				}
			}
		}
	}
	for _, s := range []string{"é", "a\u0301", "\u212a", "ａ", "a b"} {
		if names.Is(s) {
			t.Errorf("%q is one", s)
		}
	}
}
