package clump_test

import (
	"fmt"
	"iter"
	"math"
	"slices"
	"strings"
	"testing"

	"hearsay/api"
	"hearsay/clump"
	"hearsay/glyph"
)

const (
	mark    = "\u0301"
	joiner  = "\u200d"
	flagA   = "\U0001f1e6"
	flagZ   = "\U0001f1ff"
	picture = "\U0001f600"
)

// found is what All hands on.
type found struct {
	at int
	s  string
}

func (f found) String() string { return fmt.Sprintf("%+q at %d", f.s, f.at) }

func goneThrough(it iter.Seq2[int, string]) []found {
	var l []found
	for at, s := range it {
		l = append(l, found{at, s})
	}
	return l
}

// wantClumps holds All and Count of the parts, one behind the other, against these parts.
func wantClumps(t *testing.T, parts ...string) {
	t.Helper()
	var want []found
	s := ""
	for _, p := range parts {
		want = append(want, found{len(s), p})
		s += p
	}
	if got := goneThrough(clump.All(s)); !slices.Equal(got, want) {
		t.Errorf("All(%+q): %v; want %v", s, got, want)
	}
	if n := clump.Count(s); n != len(parts) {
		t.Errorf("Count(%+q): %d; want %d", s, n, len(parts))
	}
}

// outside is numbers that are no place of a text of that length.
func outside(length int) []int {
	return []int{math.MinInt, math.MinInt + 1, math.MinInt32, -9, -1, length + 1, length + 2, length + 99, math.MaxInt32, math.MaxInt - 1, math.MaxInt}
}

// TestExamples: all rows of the chapter's examples.
func TestExamples(t *testing.T) {
	for _, x := range []struct {
		r    rune
		want int
	}{{'a', 0}, {0xd, 1}, {0, 3}, {0x200d, 4}, {0xac00, 10}, {0xac01, 11}, {-1, 0}, {0xd800, 0}} {
		if got := clump.Class(x.r); got != x.want {
			t.Errorf("Class(%x): %d; want %d", x.r, got, x.want)
		}
	}
	wantClumps(t, "e"+mark, "x")
	wantClumps(t, "\r\n", "\r")
	wantClumps(t, flagA+flagA, flagA)
	wantClumps(t, picture+mark+joiner+picture)
	wantClumps(t, "a"+joiner, picture)
	wantClumps(t, picture+joiner+joiner, picture)
	wantClumps(t, mark, "a")
	wantClumps(t, "\xff", "\x65\xcc\x81")
	s := "e" + mark + "x"
	for at, want := range []bool{true, false, false, true, true, false} {
		if got := clump.Break(s, at); got != want {
			t.Errorf("Break(`e^x`, %d): %v", at, got)
		}
	}
	if !clump.Break("", 0) {
		t.Error("Break of the empty text at 0: false")
	}
	for _, x := range []struct {
		call      string
		got, want int
	}{
		{"Next(`e^x`, 0)", clump.Next(s, 0), 3},
		{"Next(`e^x`, -9)", clump.Next(s, -9), 0},
		{"Next(`e^x`, 4)", clump.Next(s, 4), 4},
		{"Prev(`e^x`, 4)", clump.Prev(s, 4), 3},
		{"Prev(`e^x`, 99)", clump.Prev(s, 99), 4},
		{"Prev(`e^x`, 0)", clump.Prev(s, 0), 0},
		{"Count(1100 1161 11A8)", clump.Count("\u1100\u1161\u11a8"), 1},
		{"Count(AC00 11A8)", clump.Count("\uac00\u11a8"), 1},
		{"Count(AC01 1161)", clump.Count("\uac01\u1161"), 2},
	} {
		if x.got != x.want {
			t.Errorf("%s: %d; want %d", x.call, x.got, x.want)
		}
	}
}

// TestClass: P2.1, at both edges of every row, of every rune, and of numbers that are none.
func TestClass(t *testing.T) {
	l, lv := stretches(t), lvs()
	for _, x := range l {
		for _, r := range []rune{x.low - 1, x.low, x.top, x.top + 1} {
			if got, want := clump.Class(r), classOf(r, l, lv); got != want {
				t.Errorf("Class(%x), at an edge of %x to %x: %d; want %d", r, x.low, x.top, got, want)
			}
		}
	}
	for r := rune(-0x100); r <= 0x110100; r++ {
		if got, want := clump.Class(r), classOf(r, l, lv); got != want {
			t.Fatalf("Class(%x): %d; want %d", r, got, want)
		}
	}
	for _, r := range []rune{math.MinInt32, math.MinInt32 + 0xd, -0xd, -1, 0xd800, 0xdfff, api.Bad, 0x110000, math.MaxInt32 - 1, math.MaxInt32} {
		if got := clump.Class(r); got != 0 {
			t.Errorf("Class(%x): %d; want 0", r, got)
		}
	}
}

// TestRules: P2.2, each rule with what stands just outside it.
func TestRules(t *testing.T) {
	const l, v, tt, lv, lvt = "\u1100", "\u1161", "\u11a8", "\uac00", "\uac01"
	for _, parts := range [][]string{
		// 1: CR and LF, in both orders.
		{"\r\n"}, {"\n", "\r"}, {"\r", "\r\n"}, {"\r\n", "\n"}, {"\r\n", "\r\n"}, {"\n", "\n"}, {"\r", "\r"}, {"\n", "\r\n", "\r"},
		// 2: ends and controls, ahead of all else, marks and joiners too.
		{"a", "\r"}, {"a", "\n"}, {"a", "\x00"}, {"\r", mark}, {"\n", joiner}, {"\x00", mark}, {"\u2029", joiner}, {"\u2028", "a"},
		{"\r", "\x00", "\n"}, {"\x7f", "\x7f"}, {picture + joiner, "\n", picture}, {flagA, "\r", flagA}, {"\u1100", "\u2028", "\u1161"},
		// 3: Hangul letters, of which every order is told by TestEveryOrder too.
		{l + l + l}, {l + v}, {l, tt}, {l + lv}, {l + lvt}, {l, "a"}, {"a", l}, {v, l}, {v + v}, {v + tt}, {v, lv}, {v, lvt},
		{tt, l}, {tt, v}, {tt + tt}, {tt, lv}, {tt, lvt}, {lv, l}, {lv + v}, {lv + tt}, {lv, lv}, {lv, lvt},
		{lvt, l}, {lvt, v}, {lvt + tt}, {lvt, lv}, {lvt, lvt}, {l + lv + v + tt + tt, l}, {l + mark, v}, {lv + joiner, tt},
		// 4: marks and joiners behind whatever else.
		{mark}, {joiner}, {mark + mark, "a"}, {joiner + mark + joiner, "a"}, {"a" + mark + mark + joiner, "b"}, {lvt + mark}, {flagA + mark}, {picture + "\ufe0f"}, {"\xff" + mark}, {"a\u200c", "b"},
		// 5: joiners between pictures, with marks ahead of them and none.
		{picture + joiner + picture}, {picture + mark + joiner + picture}, {picture + mark + mark + mark + joiner + picture},
		{picture + joiner + mark, picture}, {picture + joiner + joiner, picture}, {picture + mark, picture}, {picture, picture}, {joiner, picture}, {mark + joiner, picture},
		{"a" + mark + joiner, picture}, {picture + joiner, "a"}, {picture, "a" + joiner, picture}, {flagA + joiner, picture}, {picture + joiner, flagA}, {"\xff" + joiner, picture},
		{picture + joiner + picture + joiner + picture}, {picture + joiner + picture + mark + joiner + picture, picture}, {picture + joiner + mark + joiner, picture}, {"\n", mark + joiner, picture},
		{picture + "\U0001f3fb" + joiner + "\u2640\ufe0f"}, {"\u00a9" + joiner + "\u00ae"},
		// 6: one to five flag letters in a row, and rows that something parts.
		{flagA}, {flagA + flagZ}, {flagA + flagZ, flagA}, {flagA + flagZ, flagA + flagZ}, {flagA + flagZ, flagA + flagZ, flagA},
		{flagA, "a", flagA + flagA}, {flagA + mark, flagA + flagA}, {flagA + flagA + joiner, flagA + flagA, flagA}, {"a", flagA + flagA, "a"}, {flagA, "\xff", flagA + flagZ}, {picture, flagA + flagA, flagA},
		// 7: else a break.
		{"a", "b"}, {"\xe2", "\x82"}, {"a", picture, "b"}, {"\uFFFD", "\uFFFD"},
	} {
		wantClumps(t, parts...)
	}
}

// TestEveryOrder: P2.2 to P2.5, all of it at every place of all short texts, held against a pattern of whole clumps.
func TestEveryOrder(t *testing.T) {
	for letters := range manyWords {
		s, cuts := written(letters)
		var want []found
		for i := range len(cuts) - 1 {
			want = append(want, found{cuts[i], s[cuts[i]:cuts[i+1]]})
		}
		if got := goneThrough(clump.All(s)); !slices.Equal(got, want) {
			t.Fatalf("All of %s: %v; want %v", letters, got, want)
		}
		if n := clump.Count(s); n != len(want) {
			t.Fatalf("Count of %s: %d; want %d", letters, n, len(want))
		}
		wantSteps(t, s, cuts)
	}
}

// wantSteps holds Break, Next and Prev at every byte, and just outside, against the places of all breaks (of an empty text 0).
func wantSteps(t *testing.T, s string, breaks []int) {
	t.Helper()
	for at := -2; at <= len(s)+2; at++ {
		next, prev := len(s), 0
		for _, b := range breaks {
			if b < at {
				prev = b
			}
		}
		for _, b := range slices.Backward(breaks) {
			if b > at {
				next = b
			}
		}
		if got, want := clump.Break(s, at), slices.Contains(breaks, at); got != want {
			t.Fatalf("Break(%+q, %d): %v; want %v", s, at, got, want)
		}
		if got := clump.Next(s, at); got != next {
			t.Fatalf("Next(%+q, %d): %d; want %d", s, at, got, next)
		}
		if got := clump.Prev(s, at); got != prev {
			t.Fatalf("Prev(%+q, %d): %d; want %d", s, at, got, prev)
		}
	}
}

// TestBreak: P2.3, within runes, beside bad bytes and runes cut off, and outside the text.
func TestBreak(t *testing.T) {
	wantSteps(t, "", []int{0})
	wantSteps(t, "a", []int{0, 1})
	wantSteps(t, "é", []int{0, 2})
	wantSteps(t, "€", []int{0, 3})
	wantSteps(t, picture+picture, []int{0, 4, 8})
	wantSteps(t, "\xff\xfe", []int{0, 1, 2})
	wantSteps(t, "\x80\x80\x80", []int{0, 1, 2, 3})
	wantSteps(t, "\xf0\x9f\x98", []int{0, 1, 2, 3})         // a picture cut off behind
	wantSteps(t, "\x9f\x98\x80a", []int{0, 1, 2, 3, 4})     // and ahead
	wantSteps(t, "\xf0\x9f\x98\xcc\x81", []int{0, 1, 2, 5}) // a bad byte with its mark
	wantSteps(t, "e\xcc", []int{0, 1, 2})
	wantSteps(t, "\xcc\xcc\x81", []int{0, 3})
	wantSteps(t, "é\xa9é", []int{0, 2, 3, 5})
	wantSteps(t, picture+"\x80"+picture, []int{0, 4, 5, 9})
	wantSteps(t, "\xed\xa0\x80", []int{0, 1, 2, 3})
	wantSteps(t, "\u2028\u2029", []int{0, 3, 6})
	for _, s := range []string{"", "a", "é" + mark, "\xff", flagA + flagA + flagA} {
		for _, at := range outside(len(s)) {
			next, prev := 0, 0
			if at > 0 {
				next, prev = len(s), len(s)
			}
			if clump.Break(s, at) || clump.Next(s, at) != next || clump.Prev(s, at) != prev {
				t.Errorf("%+q at %d: %v, %d, %d", s, at, clump.Break(s, at), clump.Next(s, at), clump.Prev(s, at))
			}
		}
	}
}

// TestAll: P2.4 and W7, an iterator that is stopped, gone through twice, and within itself.
func TestAll(t *testing.T) {
	wantClumps(t)
	s := "a" + mark + "\xffb\r\n" + flagA + flagA + flagA
	all := clump.All(s)
	want := []found{{0, "a" + mark}, {3, "\xff"}, {4, "b"}, {5, "\r\n"}, {7, flagA + flagA}, {15, flagA}}
	for stop := 1; stop <= len(want); stop++ {
		handed := 0
		all(func(int, string) bool {
			handed++
			return handed < stop
		})
		if handed != stop {
			t.Errorf("stopped at the clump number %d, %d were handed on", stop, handed)
		}
	}
	for range 2 {
		if got := goneThrough(all); !slices.Equal(got, want) {
			t.Errorf("All: %v; want %v", got, want)
		}
	}
	var outer []found
	for at, c := range all {
		outer = append(outer, found{at, c})
		if got := goneThrough(all); !slices.Equal(got, want) {
			t.Errorf("All within All: %v; want %v", got, want)
		}
	}
	if !slices.Equal(outer, want) {
		t.Errorf("All around All: %v; want %v", outer, want)
	}
	if empty := clump.All(""); empty == nil || goneThrough(empty) != nil {
		t.Error("All of an empty text is nil, or hands on a clump")
	}
}

// TestParts: P2.6.
func TestParts(t *testing.T) {
	for letters := range words("RNCJMFLVTKWPa!", 3) {
		s, cuts := written(letters)
		whole := ""
		for at, c := range clump.All(s) {
			if c == "" || at != len(whole) {
				t.Fatalf("%+q: the clump %+q at %d", s, c, at)
			}
			whole += c
		}
		if whole != s {
			t.Fatalf("the clumps of %+q are %+q", s, whole)
		}
		for _, cut := range cuts {
			parts := goneThrough(clump.All(s[:cut]))
			for at, c := range clump.All(s[cut:]) {
				parts = append(parts, found{cut + at, c})
			}
			if got := goneThrough(clump.All(s)); !slices.Equal(parts, got) {
				t.Fatalf("%+q, cut at %d: %v; whole: %v", s, cut, parts, got)
			}
		}
	}
	for _, end := range []string{"\r", "\n", "\x00", "\x1f", "\x7f", "\u0085", "\u2028", "\u2029"} {
		for _, s := range pieces {
			if got := clump.Break(end+s, len(end)); got == (end == "\r" && s == "\n") {
				t.Errorf("Break between %+q and %+q: %v", end, s, got)
			}
			if got := clump.Break(s+end, len(s)); got == (s == "\r" && end == "\n") {
				t.Errorf("Break between %+q and %+q: %v", s, end, got)
			}
		}
	}
}

// TestNoClumpHasMore: P2.7.
func TestNoClumpHasMore(t *testing.T) {
	for letters := range manyWords {
		s, _ := written(letters)
		for _, c := range clump.All(s) {
			pictures, flags, controls, runes, last := 0, 0, 0, 0, 0
			for _, r := range glyph.All(c) {
				class := clump.Class(r)
				switch {
				case class == 12 && last != 4:
					pictures++
				case class == 6:
					flags++
				case class == 3:
					controls++
				}
				runes, last = runes+1, class
			}
			if pictures > 1 || flags > 2 || controls > 0 && runes > 1 {
				t.Fatalf("%+q has the clump %+q", s, c)
			}
		}
	}
}

// TestLongRows: W1, long rows of what is looked back over: they end in a time that grows with their length alone.
func TestLongRows(t *testing.T) {
	const n = 300_001
	for _, x := range []struct {
		s         string
		n         int
		next, pre int // of the beginning, and of the end
	}{
		{strings.Repeat(flagA, n), n/2 + 1, 8, 4 * (n - 1)},
		{"a" + strings.Repeat(mark, n), 1, 1 + 2*n, 0},
		{strings.Repeat(mark, n) + "a", 2, 2 * n, 2 * n},
		{picture + strings.Repeat(mark, n) + joiner + picture, 1, 4 + 2*n + 3 + 4, 0},
		{strings.Repeat(picture+joiner, n), 1, 7 * n, 0},
		{strings.Repeat(joiner, n) + picture, 2, 3 * n, 3 * n},
		{strings.Repeat("\u1100", n), 1, 3 * n, 0},
		{strings.Repeat("\xff", n), n, 1, n - 1},
		{strings.Repeat("\r\n", n), n, 2, 2*n - 2},
	} {
		if got := clump.Count(x.s); got != x.n {
			t.Errorf("Count of a row of %+q: %d; want %d", x.s[:8], got, x.n)
		}
		if got := clump.Next(x.s, 0); got != x.next {
			t.Errorf("Next in a row of %+q: %d; want %d", x.s[:8], got, x.next)
		}
		if got := clump.Prev(x.s, len(x.s)); got != x.pre {
			t.Errorf("Prev in a row of %+q: %d; want %d", x.s[:8], got, x.pre)
		}
	}
}
