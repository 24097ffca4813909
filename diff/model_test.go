package diff_test

import (
	"math"
	"math/big"
	"math/rand"
	"slices"
	"strings"
	"unicode/utf8"

	"hearsay/api"
)

// What the chapter says, worked out once more by other means: whole numbers without an end, runes one by one, and all rows of runes that a text has with gaps.

// wantApply is what a change makes of a text, or its error.
func wantApply(a string, l []api.Edit) (string, api.Errno) {
	if !utf8.ValidString(a) {
		return "", api.ErrText
	}
	left, made := []rune(a), []rune(nil)
	for _, e := range l {
		if min(e.Keep, e.Drop) < 0 {
			return "", api.ErrArg
		}
		if !utf8.ValidString(e.Text) {
			return "", api.ErrText
		}
		sum := new(big.Int).Add(big.NewInt(int64(e.Keep)), big.NewInt(int64(e.Drop)))
		if sum.Cmp(big.NewInt(int64(len(left)))) > 0 {
			return "", api.ErrIndex
		}
		for range e.Keep {
			made, left = append(made, left[0]), left[1:]
		}
		for range e.Drop {
			left = left[1:]
		}
		made = append(made, []rune(e.Text)...)
	}
	return string(append(made, left...)), api.OK
}

// wantInvert is the way back, or the error: what each Edit drops is what stands between two places of a, which are told by sums.
func wantInvert(a string, l []api.Edit) ([]api.Edit, api.Errno) {
	if _, err := wantApply(a, l); err != api.OK {
		return nil, err
	}
	var back []api.Edit
	for i, e := range l {
		end := 0
		for _, f := range l[:i+1] {
			end += f.Keep + f.Drop
		}
		back = append(back, api.Edit{Keep: e.Keep, Drop: utf8.RuneCountInString(e.Text), Text: string([]rune(a)[end-e.Drop : end])})
	}
	return back, api.OK
}

// wantWeight is the sum of what is dropped and laid.
func wantWeight(l []api.Edit) int {
	sum := new(big.Int)
	for _, e := range l {
		if e.Drop > 0 {
			sum.Add(sum, big.NewInt(int64(e.Drop)))
		}
		sum.Add(sum, big.NewInt(int64(utf8.RuneCountInString(e.Text))))
	}
	if !sum.IsInt64() {
		return math.MaxInt
	}
	return int(sum.Int64())
}

// leastOf is how many runes must be dropped and laid to make the one text of the other.
type leastOf func(a, b []rune) int

// wantMake is the change that the document's rule leads to, step by step.
func wantMake(a, b []rune, least leastOf) []api.Edit {
	var l []api.Edit
	kept := 0
	open := false // an Edit was begun, and no rune was kept since
	edit := func() *api.Edit {
		if !open {
			l = append(l, api.Edit{Keep: kept})
			open, kept = true, 0
		}
		return &l[len(l)-1]
	}
	for len(a) > 0 || len(b) > 0 {
		switch {
		case len(a) > 0 && len(b) > 0 && a[0] == b[0]:
			a, b = a[1:], b[1:]
			kept++
			open = false
		case len(b) == 0 || len(a) > 0 && least(a[1:], b) == least(a, b)-1:
			edit().Drop++
			a = a[1:]
		default:
			edit().Text += string(b[:1])
			b = b[1:]
		}
	}
	return l
}

// rows is all rows of runes that stand in a text, with gaps or without.
func rows(a []rune) map[string]bool {
	all := map[string]bool{}
	for set := range 1 << len(a) {
		row := ""
		for i, r := range a {
			if set>>i&1 == 1 {
				row += string(r)
			}
		}
		all[row] = true
	}
	return all
}

// leastByRows is of short texts alone, all of whose rows it remembers.
func leastByRows() leastOf {
	known := map[string]map[string]bool{}
	told := map[[2]string]int{}
	rowsOf := func(a []rune) map[string]bool {
		if known[string(a)] == nil {
			known[string(a)] = rows(a)
		}
		return known[string(a)]
	}
	return func(a, b []rune) int {
		both := [2]string{string(a), string(b)}
		if n, ok := told[both]; ok {
			return n
		}
		longest, other := 0, rowsOf(b)
		for row := range rowsOf(a) {
			if other[row] {
				longest = max(longest, utf8.RuneCountInString(row))
			}
		}
		told[both] = len(a) + len(b) - 2*longest
		return told[both]
	}
}

// leastByTable is of the ends of two texts of any length: how long a row the last i and the last j of their runes have in common, from the ends on.
func leastByTable(a, b []rune) leastOf {
	common := make([][]int, len(a)+1)
	common[0] = make([]int, len(b)+1)
	for i := 1; i <= len(a); i++ {
		common[i] = make([]int, len(b)+1)
		for j := 1; j <= len(b); j++ {
			common[i][j] = max(common[i-1][j], common[i][j-1])
			if a[len(a)-i] == b[len(b)-j] {
				common[i][j] = max(common[i][j], common[i-1][j-1]+1)
			}
		}
	}
	return func(a, b []rune) int { return len(a) + len(b) - 2*common[len(a)][len(b)] }
}

// nearby is every text that comes of a by so many single runes that are dropped or laid, at most, with how many at least.
func nearby(a string, runes []string, most int) map[string]int {
	found := map[string]int{a: 0}
	edge := []string{a}
	for n := 1; n <= most; n++ {
		var next []string
		for _, s := range edge {
			for _, near := range onStep(s, runes) {
				if _, ok := found[near]; !ok {
					found[near] = n
					next = append(next, near)
				}
			}
		}
		edge = next
	}
	return found
}

// onStep is every text that comes of s by one rune.
func onStep(s string, runes []string) []string {
	var l []string
	for at, r := range s {
		l = append(l, s[:at]+s[at+utf8.RuneLen(r):])
		for _, x := range runes {
			l = append(l, s[:at]+x+s[at:])
		}
	}
	for _, x := range runes {
		l = append(l, s+x)
	}
	return l
}

// every is every text of at most n of those pieces, the shortest first.
func every(pieces []string, n int) []string {
	all, last := []string{""}, []string{""}
	for range n {
		var next []string
		for _, s := range last {
			for _, p := range pieces {
				next = append(next, s+p)
			}
		}
		all, last = append(all, next...), next
	}
	return all
}

// someText is n runes of those.
func someText(rnd *rand.Rand, runes []string, n int) string {
	var b strings.Builder
	for range n {
		b.WriteString(runes[rnd.Intn(len(runes))])
	}
	return b.String()
}

// someChange is a change of a text of so many runes, with Edits of all kinds.
func someChange(rnd *rand.Rand, runes []string, left int) []api.Edit {
	var l []api.Edit
	for range rnd.Intn(6) {
		keep := rnd.Intn(min(left, 3) + 1)
		drop := rnd.Intn(min(left-keep, 3) + 1)
		l = append(l, api.Edit{Keep: keep, Drop: drop, Text: someText(rnd, runes, rnd.Intn(4))})
		left -= keep + drop
	}
	return l
}

// sameEdits tells whether two changes are the same; a nil and an empty one are.
func sameEdits(a, b []api.Edit) bool { return slices.Equal(a, b) }
