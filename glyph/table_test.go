package glyph_test

import (
	"iter"
	"slices"
	"strings"
	"testing"

	"hearsay/api"
)

// span is from where to where a byte goes, both counted in.
type span struct{ low, high byte }

// form is a row of the chapter's table of bytes, with how many of each byte's lowest digits count.
type form struct {
	first  []span
	behind []span
	digits []int
}

var tail = span{0x80, 0xbf}

// forms is the chapter's table, row by row: what the tests hold the package against.
var forms = []form{
	{[]span{{0x00, 0x7f}}, nil, []int{7}},
	{[]span{{0xc2, 0xdf}}, []span{tail}, []int{5, 6}},
	{[]span{{0xe0, 0xe0}}, []span{{0xa0, 0xbf}, tail}, []int{4, 6, 6}},
	{[]span{{0xe1, 0xec}, {0xee, 0xef}}, []span{tail, tail}, []int{4, 6, 6}},
	{[]span{{0xed, 0xed}}, []span{{0x80, 0x9f}, tail}, []int{4, 6, 6}},
	{[]span{{0xf0, 0xf0}}, []span{{0x90, 0xbf}, tail, tail}, []int{3, 6, 6, 6}},
	{[]span{{0xf1, 0xf3}}, []span{tail, tail, tail}, []int{3, 6, 6, 6}},
	{[]span{{0xf4, 0xf4}}, []span{{0x80, 0x8f}, tail, tail}, []int{3, 6, 6, 6}},
}

func (f form) fits(s string) bool {
	if len(s) < len(f.digits) {
		return false
	}
	if !slices.ContainsFunc(f.first, func(p span) bool { return p.low <= s[0] && s[0] <= p.high }) {
		return false
	}
	for i, p := range f.behind {
		if s[i+1] < p.low || s[i+1] > p.high {
			return false
		}
	}
	return true
}

func (f form) number(s string) rune {
	n := 0
	for i, d := range f.digits {
		n = n*(1<<d) + int(s[i])%(1<<d)
	}
	return rune(n)
}

// piece is one piece of a text's cut.
type piece struct {
	at, width int
	r         rune
	good      bool
}

// begin is the piece at a byte that the text has.
func begin(s string, at int) piece {
	for _, f := range forms {
		if f.fits(s[at:]) {
			return piece{at, len(f.digits), f.number(s[at:]), true}
		}
	}
	return piece{at, 1, api.Bad, false}
}

func cut(s string) []piece {
	var l []piece
	for at := 0; at < len(s); {
		p := begin(s, at)
		l = append(l, p)
		at += p.width
	}
	return l
}

// isRune is the chapter's list of the numbers that are runes.
func isRune(n int) bool { return n >= 0 && n < 0xd800 || n > 0xdfff && n <= 0x10ffff }

// edges is the bytes at both sides of every edge of the chapter's table.
const edges = "\x00a\x7f\x80\x8f\x90\x9f\xa0\xbf\xc0\xc1\xc2\xdf\xe0\xe1\xec\xed\xee\xef\xf0\xf1\xf3\xf4\xf5\xff"

// known is texts that say something by themselves.
var known = []string{
	"", "a", "aé", "héy", "naïve €5 𝄞!", "\x00\x7f",
	"\xef\xbf\xbd", "a\xef\xbf\xbdb", "\xef\xbf\xbd\xff", "\xff\xef\xbf\xbd",
	"\xc1\xbf", "\xc0\x80", "\xc2", "\xc2\x80", "\xdf\xbf", "é\xffz",
	"\xe0\x9f\xbf", "\xe0\xa0\x80", "\xe2\x82", "a\xe2\x82a", "\xe2\x82a", "\xe2\x82\xe2\x82\xac",
	"\xed\x9f\xbf", "\xed\xa0\x80", "\xed\xbf\xbf", "\xee\x80\x80",
	"\xf0\x8f\xbf\xbf", "\xf0\x90\x80\x80", "\xf0\x9d\x84", "\xf0\x9d\x84\x9e", "\xf0\x9d\x84\x9e\x9e",
	"\xf4\x8f\xbf\xbf", "\xf4\x90\x80\x80", "\xf5\x80\x80\x80", "\xf8\x88\x80\x80\x80", "\xff\xfe",
	"\x80\x80\x80\x80\x80", "\xe2\x82\xac\x80", "\xe2\xe2\xe2\x82\xac",
}

// texts is the known texts, every text of up to three bytes of edges, and longer ones of runes, cut off runes and edges.
func texts() iter.Seq[string] {
	return func(yield func(string) bool) {
		for _, s := range known {
			if !yield(s) {
				return
			}
		}
		short := []string{""}
		for range 3 {
			short = extend(short)
			for _, s := range short {
				if !yield(s) {
					return
				}
			}
		}
		for seed := range 20000 {
			if !yield(mixed(uint32(seed))) {
				return
			}
		}
	}
}

// extend is each text with each byte of edges behind it.
func extend(l []string) []string {
	var out []string
	for _, s := range l {
		for i := range len(edges) {
			out = append(out, s+edges[i:i+1])
		}
	}
	return out
}

// mixed is a text of up to twelve parts that hangs on the seed alone.
func mixed(seed uint32) string {
	parts := []string{"a", "é", "߿", "ࠀ", "€", "\ud7ff", "\ue000", "\uffff", "𐀀", "𝄞", "\U0010ffff", "\xef\xbf\xbd", "\xe2\x82", "\xf0\x9d\x84", "\xed\xa0\x80", "\xf4\x90"}
	next := func(n int) int {
		seed = seed*1664525 + 1013904223
		return int(seed>>16) % n
	}
	next(1)
	var b strings.Builder
	for range next(13) {
		if k := next(len(parts) + 8); k < len(parts) {
			b.WriteString(parts[k])
		} else {
			b.WriteByte(edges[next(len(edges))])
		}
	}
	return b.String()
}

// TestTable holds the table itself against the list of runes: each rune has one form.
func TestTable(t *testing.T) {
	seen := 0
	last := rune(-1)
	for _, f := range forms {
		for _, p := range f.first {
			for c := int(p.low); c <= int(p.high); c++ {
				eachBehind(string([]byte{byte(c)}), f.behind, func(s string) {
					r := f.number(s)
					if !isRune(int(r)) {
						t.Fatalf("%x is %x, which is no rune", s, r)
					}
					seen++
					last = max(last, r)
				})
			}
		}
	}
	if seen != 0x110000-0x800 || last != 0x10ffff {
		t.Errorf("%x forms up to %x", seen, last)
	}
}

// eachBehind does something with each text that begins so and goes on by those spans.
func eachBehind(s string, behind []span, do func(string)) {
	if len(behind) == 0 {
		do(s)
		return
	}
	for c := int(behind[0].low); c <= int(behind[0].high); c++ {
		eachBehind(s+string([]byte{byte(c)}), behind[1:], do)
	}
}
