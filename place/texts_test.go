package place_test

import (
	"iter"
	"regexp"
	"strings"
	"unicode/utf16"
	"unicode/utf8"

	"hearsay/api"
	"hearsay/clump"
)

// end is the chapter's line's end: 0d and 0a together, or one of them.
var end = regexp.MustCompile(`\r\n|\r|\n`)

// row is a line: its bytes without its end, and the byte at which it begins.
type row struct {
	at        int
	text, end string
}

// rows is the lines of a text.
func rows(text string) []row {
	var l []row
	at := 0
	for _, e := range end.FindAllStringIndex(text, -1) {
		l = append(l, row{at, text[at:e[0]], text[e[0]:e[1]]})
		at = e[1]
	}
	return append(l, row{at, text[at:], ""})
}

// rowAt is the number of the line on which a byte is, and the byte at which that begins.
func rowAt(l []row, at int) (int, int) {
	n := 1
	for n < len(l) && l[n].at <= at {
		n++
	}
	return n, l[n-1].at
}

// spotsOf is the spots of all places of a text, each worked out by itself from what stands ahead of its byte.
func spotsOf(text string) []api.Spot {
	var l []api.Spot
	lines := rows(text)
	for _, at := range piecesAt(text) {
		line, from := rowAt(lines, at)
		l = append(l, api.Spot{
			Byte:   at,
			Rune:   utf8.RuneCountInString(text[:at]),
			Unit:   len(utf16.Encode([]rune(text[:at]))),
			Clump:  clumpsAhead(text, at),
			Line:   line,
			Column: 1 + utf8.RuneCountInString(text[from:at]),
		})
	}
	return l
}

// piecesAt is the bytes at which pieces begin, and the end.
func piecesAt(text string) []int {
	var l []int
	for at := range text {
		l = append(l, at)
	}
	return append(l, len(text))
}

// clumpsAhead is how many clumps end at a byte or ahead of it.
func clumpsAhead(text string, at int) int {
	n := 0
	for b := 1; b <= at; b++ {
		if clump.Break(text, b) {
			n++
		}
	}
	return n
}

// numbers is a spot's numbers of the four units.
func numbers(s api.Spot) map[int]int {
	return map[int]int{api.UnitByte: s.Byte, api.UnitRune: s.Rune, api.UnitUTF16: s.Unit, api.UnitClump: s.Clump}
}

// example is the text of the chapter's examples.
const example = "\x61\x6e\xcc\x83\x0d\x0a\xf0\x9d\x84\x9e\xff"

// known is texts that say something by themselves.
var known = []string{
	"", "a", "ab", "é", example, "\x0a\x0d\x0d\x0a",
	"\n", "\r", "\r\n", "\n\r", "\n\n", "\r\r", "\r\n\r\n", "\n\r\n\r", "\r\r\n\n", "\r\n\n", "\r\r\n",
	"a\n", "\na", "a\r", "\ra", "a\r\n", "\r\na", "a\n\rb", "a\r\nb", "one\ntwo\r\nthree\rfour", "one\ntwo\r\nthree\r",
	"\uffff", "\U00010000", "\U0010ffff", "a\uffff\U00010000b", "\ud7ff\ue000", "\xef\xbf\xbd",
	"\xff", "\x80\x80", "\xe2\x82", "\xe2\x82\n", "\xf0\x9d\x84", "\xf0\x9d\x84\r\n", "\xf0\x9d\x84\x9e\x9e", "\xed\xa0\x80", "\xf4\x90\x80\x80", "\xc2\r\xc2\n",
	"e\u0301", "e\u0301\u0301x", "\u0301", "\n\u0301", "\r\u0301\n", "\u0301\r\n\u0301", "\u2028\u2029\u0085\v\f",
	"\U0001f1e6\U0001f1e6\U0001f1e6", "\U0001f600\u0301\u200d\U0001f600\n\U0001f600", "\u1100\u1161\u11a8",
	"\x00", "\x00\r\x00\n", " \t\r\n",
}

// parts is what the texts of texts are made of.
var parts = []string{"a", "\n", "\r", "é", "\u0301", "\uffff", "\U00010000", "\xff", "\xe2\x82", "\xf0\x9d\x84", "\U0001f1e6", "\U0001f600", "\u200d"}

// made is all texts of n parts.
func made(of []string, n int) iter.Seq[string] {
	return func(yield func(string) bool) {
		if n == 0 {
			yield("")
			return
		}
		for text := range made(of, n-1) {
			for _, p := range of {
				if !yield(text + p) {
					return
				}
			}
		}
	}
}

// mixed is a text of up to twenty parts that hangs on the seed alone.
func mixed(seed uint32) string {
	next := func(n int) int {
		seed = seed*1664525 + 1013904223
		return int(seed>>16) % n
	}
	next(1)
	var b strings.Builder
	for range next(21) {
		b.WriteString(parts[next(len(parts))])
	}
	return b.String()
}

// texts is the known texts, all short ones of the parts, all somewhat longer ones of line's ends, and mixed ones.
func texts(yield func(string) bool) {
	lots := []iter.Seq[string]{made([]string{"a", "\n", "\r"}, 6)}
	for n := range 4 {
		lots = append(lots, made(parts, n))
	}
	for _, text := range known {
		if !yield(text) {
			return
		}
	}
	for _, lot := range lots {
		for text := range lot {
			if !yield(text) {
				return
			}
		}
	}
	for seed := range uint32(2000) {
		if !yield(mixed(seed)) {
			return
		}
	}
}
