package clump_test

import (
	"iter"
	"regexp"
	"strconv"
	"strings"
	"testing"
)

// table is the chapter's table of classes, row by row, as it stands there.
var table = []string{
	"D",
	"A",
	"0 to 1F, 7F to 9F, 2028, 2029",
	"200D",
	"300 to 36F, 483 to 489, 591 to 5BD, 64B to 65F, 1AB0 to 1AFF, 1DC0 to 1DFF, 200C, 20D0 to 20FF, 302A to 302F, 3099, 309A, FE00 to FE0F, FE20 to FE2F, 1F3FB to 1F3FF, E0020 to E007F, E0100 to E01EF",
	"1F1E6 to 1F1FF",
	"1100 to 115F, A960 to A97C",
	"1160 to 11A7, D7B0 to D7C6",
	"11A8 to 11FF, D7CB to D7FB",
	"", // LV is told by counting: see classOf
	"AC00 to D7A3",
	"A9, AE, 203C, 2049, 2122, 2139, 2190 to 21FF, 2300 to 23FF, 2600 to 27BF, 2B00 to 2BFF, 3030, 303D, 3297, 3299, 1F000 to 1F1E5, 1F200 to 1FAFF",
}

// stretch is the numbers from one to another, both counted in, and their row.
type stretch struct {
	class    int
	low, top rune
}

// stretches reads the table.
func stretches(t *testing.T) []stretch {
	t.Helper()
	number := func(s string) rune {
		n, err := strconv.ParseInt(s, 16, 32)
		if err != nil {
			t.Fatal(err)
		}
		return rune(n)
	}
	var l []stretch
	for i, row := range table {
		for _, part := range strings.Split(row, ", ") {
			if part == "" {
				continue
			}
			low, top, both := strings.Cut(part, " to ")
			if !both {
				top = low
			}
			l = append(l, stretch{i + 1, number(low), number(top)})
		}
	}
	return l
}

// lvs is the runes of class 10, counted up.
func lvs() map[rune]bool {
	m := map[rune]bool{}
	for r := rune(0xac00); r <= 0xd7a3; r += 28 {
		m[r] = true
	}
	return m
}

// classOf is the class that the table gives a number.
func classOf(r rune, l []stretch, lv map[rune]bool) int {
	for _, x := range l {
		if x.low <= r && r <= x.top {
			if x.class == 11 && lv[r] {
				return 10
			}
			return x.class
		}
	}
	return 0
}

// Letters for the pieces of texts, by class: the clumps of a text are matches of the pattern below over these letters.
// Letters: R CR, N LF, C control, J joiner, M mark, F flag letter, L V T the Hangul letters, K LV, W LVT, P picture, a other, ! a bad byte.
var pieces = map[byte]string{
	'R': "\r", 'N': "\n", 'C': "\u2028", 'J': "\u200d", 'M': "\u0301", 'F': "\U0001f1e6",
	'L': "\u1100", 'V': "\u1161", 'T': "\u11a8", 'K': "\uac00", 'W': "\uac01", 'P': "\U0001f600", 'a': "a", '!': "\xe2",
}

// clumpForm tells what a clump may be, as a whole, where the chapter tells of two neighbours what is between them.
var clumpForm = func() *regexp.Regexp {
	r := regexp.MustCompile(`RN|[RNC]|(P(M*JP)*|FF?|L+|T+|L*(V+|KV*|W)T*|[a!MJ])[MJ]*`)
	r.Longest()
	return r
}()

// written is the text that letters stand for, and the places of its clumps' beginnings with its end.
func written(letters string) (string, []int) {
	var b strings.Builder
	var cuts []int
	for letters != "" {
		cuts = append(cuts, b.Len())
		m := clumpForm.FindStringIndex(letters)
		for _, c := range []byte(letters[:m[1]]) {
			b.WriteString(pieces[c])
		}
		letters = letters[m[1]:]
	}
	return b.String(), append(cuts, b.Len())
}

// words is all rows of up to n of the letters.
func words(letters string, n int) iter.Seq[string] {
	return func(yield func(string) bool) {
		var grow func(s string, n int) bool
		grow = func(s string, n int) bool {
			if !yield(s) {
				return false
			}
			for i := range len(letters) {
				if n > 0 && !grow(s+letters[i:i+1], n-1) {
					return false
				}
			}
			return true
		}
		grow("", n)
	}
}

// manyWords is rows of letters that try all rules: short ones of all letters, longer ones of those that hang on more than two.
func manyWords(yield func(string) bool) {
	for _, x := range []struct {
		letters string
		n       int
	}{{"RNCJMFLVTKWPa!", 3}, {"JMPa", 7}, {"FMaC", 6}, {"LVTKW", 5}, {"RNCM!", 5}, {"PJMF!R", 5}} {
		for w := range words(x.letters, x.n) {
			if !yield(w) {
				return
			}
		}
	}
}
