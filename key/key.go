// Package key is layer 1: keys as bytes whose order is theirs: see shared/doc/01-key.md.
package key

import (
	"bytes"
	"cmp"
	"slices"
	"strings"

	"rhizome/api"
)

// The bytes that parts are made of. A number's mark is the lesser one, so that numbers stand ahead of texts.
const (
	markNum  = 0x01
	markText = 0x02
	zero     = 0x00 // of a text, with more or its end behind it
	textMore = 0xFF // behind a zero: the zero is the text's own
	textEnd  = 0x01 // behind a zero: the text ends
)

const (
	numBytes = 8
	flip     = 1 << 63 // added to a number, it puts those below 0 ahead of the others
)

// Part: a number, or a text.
type Part struct {
	Text bool
	S    string // of a text
	N    int    // of a number
}

// Encode: a key's bytes.
func Encode(k []Part) ([]byte, api.Errno) {
	size := 0
	for _, p := range k {
		size += partSize(p)
		if size > api.MaxKey { // ahead of any copy: a text may be far too long
			return nil, api.ErrLong
		}
	}
	b := make([]byte, 0, size)
	for _, p := range k {
		b = appendPart(b, p)
	}
	return b, api.OK
}

// Decode: the key whose bytes these are.
func Decode(b []byte) ([]Part, api.Errno) {
	if len(b) > api.MaxKey {
		return nil, api.ErrLong
	}
	var k []Part
	for len(b) > 0 {
		p, rest, ok := readPart(b)
		if !ok {
			return nil, api.ErrForm
		}
		k = append(k, p)
		b = rest
	}
	return k, api.OK
}

// Cmp: by the order.
func Cmp(a, b []Part) int {
	return slices.CompareFunc(a, b, func(x, y Part) int {
		switch {
		case x.Text && y.Text:
			return strings.Compare(x.S, y.S)
		case x.Text:
			return 1
		case y.Text:
			return -1
		}
		return cmp.Compare(x.N, y.N)
	})
}

// End: the least bytes behind all that begin so.
func End(b []byte) []byte {
	for i := len(b) - 1; i >= 0; i-- {
		if b[i] < 0xFF { // an FF can't be raised: what is raised must stand ahead of it
			end := bytes.Clone(b[:i+1])
			end[i]++
			return end
		}
	}
	return nil
}

// Num: a number's part.
func Num(n int) Part { return Part{N: n} }

// Str: a text's part.
func Str(s string) Part { return Part{Text: true, S: s} }

func partSize(p Part) int {
	if !p.Text {
		return 1 + numBytes
	}
	return 1 + len(p.S) + strings.Count(p.S, "\x00") + 2
}

func appendPart(b []byte, p Part) []byte {
	if p.Text {
		return appendText(b, p.S)
	}
	return appendNum(b, p.N)
}

func appendNum(b []byte, n int) []byte {
	b = append(b, markNum)
	u := uint64(n) + flip
	for shift := 56; shift >= 0; shift -= 8 {
		b = append(b, byte(u>>shift))
	}
	return b
}

func appendText(b []byte, s string) []byte {
	b = append(b, markText)
	for i := range len(s) {
		b = append(b, s[i])
		if s[i] == zero {
			b = append(b, textMore)
		}
	}
	return append(b, zero, textEnd)
}

// readPart reads the part that b begins with, and tells what is behind it.
func readPart(b []byte) (Part, []byte, bool) {
	switch b[0] {
	case markNum:
		return readNum(b[1:])
	case markText:
		return readText(b[1:])
	}
	return Part{}, nil, false
}

// readNum, as readText, is given what stands behind the mark.
func readNum(b []byte) (Part, []byte, bool) {
	if len(b) < numBytes {
		return Part{}, nil, false
	}
	var u uint64
	for _, c := range b[:numBytes] {
		u = u<<8 | uint64(c)
	}
	return Num(int(u - flip)), b[numBytes:], true
}

func readText(b []byte) (Part, []byte, bool) {
	var s []byte
	for {
		i := bytes.IndexByte(b, zero)
		if i < 0 || i+1 == len(b) {
			return Part{}, nil, false
		}
		s = append(s, b[:i]...)
		next, rest := b[i+1], b[i+2:]
		switch next {
		case textMore:
			s = append(s, zero)
		case textEnd:
			return Str(string(s)), rest, true
		default:
			return Part{}, nil, false
		}
		b = rest
	}
}
