// Package glyph is UTF-8, by hand: see DOC.md, chapter 1.
package glyph

import (
	"iter"
	"strings"

	"hearsay/api"
)

// The bytes that may follow in a rune, where its first byte does not say otherwise.
const (
	tailLow  = 0x80
	tailHigh = 0xbf
)

// maxWidth is how many bytes the widest rune has.
const maxWidth = 4

// head is what a first byte says of its rune: how many bytes it has (0: it begins none), and from where to where the second one goes.
// The second byte is narrowed where a wider range would give a rune two forms, a surrogate, or a number above 10ffff.
func head(first byte) (width int, low, high byte) {
	switch {
	case first <= 0x7f:
		return 1, tailLow, tailHigh
	case first <= 0xc1:
		return 0, 0, 0
	case first <= 0xdf:
		return 2, tailLow, tailHigh
	case first == 0xe0:
		return 3, 0xa0, tailHigh
	case first == 0xed:
		return 3, tailLow, 0x9f
	case first <= 0xef:
		return 3, tailLow, tailHigh
	case first == 0xf0:
		return 4, 0x90, tailHigh
	case first <= 0xf3:
		return 4, tailLow, tailHigh
	case first == 0xf4:
		return 4, tailLow, 0x8f
	}
	return 0, 0, 0
}

// Decode is the rune that begins at a byte of a text, how many bytes it has, and whether it is one.
func Decode(s string, at int) (rune, int, bool) {
	if at < 0 || at >= len(s) {
		return 0, 0, false
	}
	first := s[at]
	width, low, high := head(first)
	if width == 0 || width > len(s)-at {
		return api.Bad, 1, false
	}
	if width == 1 {
		return rune(first), 1, true
	}
	r := rune(first & (0x7f >> width))
	for i := at + 1; i < at+width; i++ {
		if s[i] < low || s[i] > high {
			return api.Bad, 1, false
		}
		r = r<<6 | rune(s[i]&0x3f)
		low, high = tailLow, tailHigh
	}
	return r, width, true
}

// Last is the rune that ends ahead of a byte of a text, how many bytes it has, and whether it is one.
func Last(s string, end int) (rune, int, bool) {
	if end < 1 || end > len(s) {
		return 0, 0, false
	}
	// One width fits at most: no rune's bytes end with those of another one.
	for width := 1; width <= min(maxWidth, end); width++ {
		if r, n, ok := Decode(s, end-width); ok && n == width {
			return r, n, true
		}
	}
	return api.Bad, 1, false
}

// Encode is a rune as a text; what is no rune counts as api.Bad.
func Encode(r rune) string { return string(r) }

// BadAt is the first byte that begins no rune; -1: there is none.
func BadAt(s string) int {
	for at, r := range All(s) {
		if r != api.Bad {
			continue
		}
		// Written out, api.Bad is a rune like any other.
		if _, _, ok := Decode(s, at); !ok {
			return at
		}
	}
	return -1
}

// Count is how many runes a text has, a byte that begins none being one.
func Count(s string) int {
	n := 0
	for range All(s) {
		n++
	}
	return n
}

// Mend is a text with api.Bad in the place of each byte that begins no rune.
func Mend(s string) string {
	if BadAt(s) < 0 {
		return s
	}
	var b strings.Builder
	for _, r := range All(s) {
		b.WriteString(Encode(r))
	}
	return b.String()
}

// All goes through the runes of a text, each with its place.
func All(s string) iter.Seq2[int, rune] {
	return func(yield func(int, rune) bool) {
		for at, r := range s {
			if !yield(at, r) {
				return
			}
		}
	}
}

// Back goes through them from the end.
func Back(s string) iter.Seq2[int, rune] {
	return func(yield func(int, rune) bool) {
		for end := len(s); end > 0; {
			r, n, _ := Last(s, end)
			end -= n
			if !yield(end, r) {
				return
			}
		}
	}
}

// Runes is the runes of a text.
func Runes(s string) []rune { return []rune(s) }

// Text is runes as a text; what is no rune counts as api.Bad.
func Text(l []rune) string { return string(l) }

// Cut is the first n runes of a text, and the rest.
func Cut(s string, n int) (string, string) {
	for at := range All(s) {
		if n <= 0 {
			return s[:at], s[at:]
		}
		n--
	}
	return s, ""
}
