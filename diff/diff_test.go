package diff_test

import (
	"math"
	"math/rand"
	"slices"
	"strings"
	"testing"
	"unicode/utf8"
	"unsafe"

	"hearsay/api"
	"hearsay/diff"
)

// wide is runes of one to four bytes, api.Bad written out among them, which is a rune like any other.
var wide = []string{"a", "é", "\uFFFD", "𝄞"}

// notGood is texts that are no UTF-8 all through.
var notGood = []string{"\xff", "a\xff", "\xffa", "\xe2\x82", "é\xc3", "\xed\xa0\x80", "\xc0\x80", "\xf4\x90\x80\x80", "a\x80b"}

// edit is an Edit as the chapter's examples write it.
func edit(keep, drop int, text string) api.Edit {
	return api.Edit{Keep: keep, Drop: drop, Text: text}
}

func wantEdits(t *testing.T, call string, got []api.Edit, err api.Errno, want []api.Edit, wantErr api.Errno) {
	t.Helper()
	if !sameEdits(got, want) || err != wantErr {
		t.Errorf("%s: %v, %v; want %v, %v", call, got, int(err), want, int(wantErr))
	}
}

// wantApplied holds Apply and Invert against what is worked out a second time.
func wantApplied(t *testing.T, a string, l []api.Edit) {
	t.Helper()
	want, wantErr := wantApply(a, l)
	if got, err := diff.Apply(a, l); got != want || err != wantErr {
		t.Errorf("Apply(%q, %v): %q, %d; want %q, %d", a, l, got, int(err), want, int(wantErr))
	}
	back, wantErr := wantInvert(a, l)
	got, err := diff.Invert(a, l)
	wantEdits(t, "Invert", got, err, back, wantErr)
}

// wantError holds Apply and Invert against an error that is written out in the test.
func wantError(t *testing.T, a string, l []api.Edit, want api.Errno) {
	t.Helper()
	if s, err := diff.Apply(a, l); s != "" || err != want {
		t.Errorf("Apply(%q, %v): %q, %d; want %d", a, l, s, int(err), int(want))
	}
	if back, err := diff.Invert(a, l); len(back) != 0 || err != want {
		t.Errorf("Invert(%q, %v): %v, %d; want %d", a, l, back, int(err), int(want))
	}
	wantApplied(t, a, l)
}

// made is the change of a to b, which there must be.
func made(t *testing.T, a, b string) []api.Edit {
	t.Helper()
	l, err := diff.Make(a, b)
	if err != api.OK {
		t.Fatalf("Make(%q, %q): %d", a, b, int(err))
	}
	return l
}

// TestExamples: all rows of the chapter's examples.
func TestExamples(t *testing.T) {
	for _, x := range []struct {
		a, b string
		want []api.Edit
	}{
		{"héy", "hy", []api.Edit{edit(1, 1, "")}},
		{"", "ab", []api.Edit{edit(0, 0, "ab")}},
		{"ab", "", []api.Edit{edit(0, 2, "")}},
		{"ab", "ab", nil},
		{"abc", "xbz", []api.Edit{edit(0, 1, "x"), edit(1, 1, "z")}},
		{"ab", "ba", []api.Edit{edit(0, 1, ""), edit(1, 0, "a")}},
		{"kitten", "sitting", []api.Edit{edit(0, 1, "s"), edit(3, 1, "i"), edit(1, 0, "g")}},
	} {
		l, err := diff.Make(x.a, x.b)
		wantEdits(t, "Make("+x.a+", "+x.b+")", l, err, x.want, api.OK)
	}
	if n := diff.Weight(made(t, "kitten", "sitting")); n != 5 {
		t.Errorf("Weight: %d; want 5", n)
	}
	if s, err := diff.Apply("héy", []api.Edit{edit(1, 1, "ex")}); s != "hexy" || err != api.OK {
		t.Errorf("Apply: %q, %d", s, int(err))
	}
	wantError(t, "héy", []api.Edit{edit(2, 2, "")}, api.ErrIndex)
	wantError(t, "héy", []api.Edit{edit(-1, 0, "")}, api.ErrArg)
	wantError(t, "héy", []api.Edit{edit(0, 0, "\xff")}, api.ErrText)
	l, err := diff.Invert("héy", []api.Edit{edit(1, 1, "ex")})
	wantEdits(t, "Invert", l, err, []api.Edit{edit(1, 2, "é")}, api.OK)
	l, err = diff.Make("\xff", "a")
	wantEdits(t, "Make(ff, a)", l, err, nil, api.ErrText)
	l, err = diff.Make(strings.Repeat("é", 401), "a")
	wantEdits(t, "Make(401 runes, a)", l, err, nil, api.ErrLong)
}

// P5.1: what a change makes of a text, at the edges.
func TestApply(t *testing.T) {
	for _, x := range []struct {
		a    string
		l    []api.Edit
		want string
	}{
		{"", nil, ""},
		{"héy", nil, "héy"},
		{"héy", []api.Edit{}, "héy"},
		{"", []api.Edit{{}}, ""},
		{"", []api.Edit{{}, edit(0, 0, "é"), {}}, "é"},
		{"héy", []api.Edit{{}}, "héy"},
		{"héy", []api.Edit{edit(3, 0, "")}, "héy"},
		{"héy", []api.Edit{edit(0, 3, "")}, ""},
		{"héy", []api.Edit{edit(2, 1, "")}, "hé"},
		{"héy", []api.Edit{edit(3, 0, ""), edit(0, 0, "!")}, "héy!"},
		{"héy", []api.Edit{edit(0, 0, "a"), edit(0, 0, "b"), edit(0, 1, "c"), edit(0, 1, "d")}, "abcdy"},
		{"héy", []api.Edit{edit(1, 0, ""), edit(1, 0, ""), edit(0, 0, "𝄞")}, "hé𝄞y"},
		{"a\uFFFD𝄞", []api.Edit{edit(1, 1, "\uFFFD\uFFFD"), edit(1, 0, "€")}, "a\uFFFD\uFFFD𝄞€"},
		{"𝄞𝄞𝄞", []api.Edit{edit(1, 1, "x")}, "𝄞x𝄞"},
	} {
		if got, err := diff.Apply(x.a, x.l); got != x.want || err != api.OK {
			t.Errorf("Apply(%q, %v): %q, %d; want %q", x.a, x.l, got, int(err), x.want)
		}
		wantApplied(t, x.a, x.l)
	}
}

// P5.1: a text that is not good comes ahead of whatever the Edits are.
func TestApplyToNoText(t *testing.T) {
	for _, a := range notGood {
		for _, l := range [][]api.Edit{nil, {}, {{}}, {edit(1, 0, "x")}, {edit(-1, 0, "")}, {edit(0, 0, "\xff")}, {edit(math.MaxInt, 0, "")}} {
			wantError(t, a, l, api.ErrText)
		}
	}
}

// offences is Edits that offend behind a rune or two that are left, each with its error.
var offences = []struct {
	edit api.Edit
	err  api.Errno
}{
	{api.Edit{Keep: -1}, api.ErrArg},
	{api.Edit{Drop: -1}, api.ErrArg},
	{api.Edit{Keep: 1, Drop: -1}, api.ErrArg},
	{api.Edit{Keep: -1, Drop: 1}, api.ErrArg},
	{api.Edit{Keep: math.MinInt, Drop: math.MinInt}, api.ErrArg},
	{api.Edit{Keep: math.MinInt, Drop: math.MaxInt}, api.ErrArg},
	{api.Edit{Keep: math.MaxInt, Drop: -1}, api.ErrArg},
	{api.Edit{Keep: -1, Text: "\xff"}, api.ErrArg},
	{api.Edit{Drop: math.MinInt, Text: "\xff"}, api.ErrArg},
	{api.Edit{Keep: 99, Drop: -1, Text: "\xff"}, api.ErrArg},
	{api.Edit{Text: "\xff"}, api.ErrText},
	{api.Edit{Text: "ok\xe2\x82"}, api.ErrText},
	{api.Edit{Keep: 99, Text: "\xff"}, api.ErrText},
	{api.Edit{Keep: math.MaxInt, Drop: math.MaxInt, Text: "\xc0\x80"}, api.ErrText},
	{api.Edit{Keep: 99}, api.ErrIndex},
	{api.Edit{Drop: 99, Text: "x"}, api.ErrIndex},
	{api.Edit{Keep: math.MaxInt}, api.ErrIndex},
	{api.Edit{Drop: math.MaxInt}, api.ErrIndex},
	{api.Edit{Keep: math.MaxInt, Drop: math.MaxInt}, api.ErrIndex},
	{api.Edit{Keep: math.MaxInt, Drop: 1}, api.ErrIndex},
	{api.Edit{Keep: 1, Drop: math.MaxInt}, api.ErrIndex},
	{api.Edit{Keep: math.MaxInt/2 + 1, Drop: math.MaxInt/2 + 1}, api.ErrIndex},
	{api.Edit{Keep: math.MaxInt32, Drop: math.MaxInt32, Text: "x"}, api.ErrIndex},
}

// P5.1: the first Edit that offends tells the error, be it the first one of all, one between, or the last; what comes behind it is not looked at.
func TestFirstOffence(t *testing.T) {
	const a = "héy𝄞ab"
	good := api.Edit{Keep: 1, Drop: 1, Text: "ü"}
	for _, x := range offences {
		wantError(t, a, []api.Edit{x.edit}, x.err)
		wantError(t, a, []api.Edit{x.edit, good, good}, x.err)
		wantError(t, a, []api.Edit{good, x.edit, good}, x.err)
		wantError(t, a, []api.Edit{good, good, x.edit}, x.err)
		wantError(t, "", []api.Edit{x.edit}, x.err)
		for _, y := range offences {
			wantError(t, a, []api.Edit{x.edit, y.edit}, x.err)
			wantError(t, a, []api.Edit{good, x.edit, good, y.edit}, x.err)
		}
	}
}

// P5.1: how much is left is counted in runes, and over all Edits ahead; what was laid is not left.
func TestLeft(t *testing.T) {
	for _, a := range []string{"", "é", "éé", "𝄞é", "ab𝄞"} {
		n := utf8.RuneCountInString(a)
		for keep := range n + 2 {
			for drop := range n + 2 {
				one := []api.Edit{{Keep: keep, Drop: drop, Text: "wxyz"}}
				if keep+drop > n {
					wantError(t, a, one, api.ErrIndex)
					continue
				}
				wantApplied(t, a, one)
				left := n - keep - drop
				wantApplied(t, a, append(one, api.Edit{Keep: left}))
				wantApplied(t, a, append(one, api.Edit{Drop: left, Text: "é"}))
				wantError(t, a, append(one, api.Edit{Keep: left + 1}), api.ErrIndex)
				wantError(t, a, append(one, api.Edit{Drop: left + 1}), api.ErrIndex)
				wantError(t, a, append(one, api.Edit{Keep: left, Drop: 1}), api.ErrIndex)
				wantError(t, a, append(one, api.Edit{Keep: left, Drop: math.MaxInt}), api.ErrIndex)
			}
		}
	}
}

// P5.1, P5.3: all changes of few Edits with small numbers, good ones and others.
func TestAllSmallChanges(t *testing.T) {
	var edits []api.Edit
	for keep := -1; keep <= 2; keep++ {
		for drop := -1; drop <= 2; drop++ {
			for _, text := range []string{"", "x", "é\uFFFD", "\x80"} {
				edits = append(edits, api.Edit{Keep: keep, Drop: drop, Text: text})
			}
		}
	}
	for _, a := range []string{"", "é", "a𝄞", "aéb", "\xc3"} {
		for _, e := range edits {
			wantApplied(t, a, []api.Edit{e})
			for _, f := range edits {
				wantApplied(t, a, []api.Edit{e, f})
			}
		}
	}
}

// wantMade holds what Make answers against the rule, and against what it says of the Edits' form.
func wantMade(t *testing.T, a, b string, least leastOf) {
	t.Helper()
	l, err := diff.Make(a, b)
	if want := wantMake([]rune(a), []rune(b), least); err != api.OK || !sameEdits(l, want) {
		t.Fatalf("Make(%q, %q): %v, %d; want %v", a, b, l, int(err), want)
	}
	for i, e := range l {
		if i > 0 && e.Keep == 0 || e.Drop == 0 && e.Text == "" || min(e.Keep, e.Drop) < 0 {
			t.Fatalf("Make(%q, %q): %v: the Edit %d", a, b, l, i)
		}
	}
	if s, err := diff.Apply(a, l); s != b || err != api.OK {
		t.Fatalf("Apply(%q, %v): %q, %d; want %q", a, l, s, int(err), b)
	}
	if n, want := diff.Weight(l), least([]rune(a), []rune(b)); n != want {
		t.Fatalf("Weight(%v): %d; want %d, of %q and %q", l, n, want, a, b)
	}
}

// P5.2, P5.5: of all pairs of short texts.
func TestMakeShort(t *testing.T) {
	for _, x := range []struct {
		runes []string
		most  int
	}{
		{wide, 4},
		{[]string{"x", "é"}, 7},
		{[]string{"€", "b", "𝄞"}, 5},
	} {
		least := leastByRows()
		texts := every(x.runes, x.most)
		for _, a := range texts {
			for _, b := range texts {
				wantMade(t, a, b, least)
			}
		}
	}
}

// P5.2: the rule takes dropping ahead of laying, and keeping ahead of both.
func TestMakeChoice(t *testing.T) {
	for _, x := range []struct {
		a, b string
		want []api.Edit
	}{
		{"a", "b", []api.Edit{edit(0, 1, "b")}},
		{"ab", "abab", []api.Edit{edit(2, 0, "ab")}},
		{"abab", "ab", []api.Edit{edit(2, 2, "")}},
		{"aXb", "aYb", []api.Edit{edit(1, 1, "Y")}},
		{"é𝄞", "𝄞é", []api.Edit{edit(0, 1, ""), edit(1, 0, "é")}},
		{"abc", "cab", []api.Edit{edit(0, 0, "c"), edit(2, 1, "")}},
		{"cab", "abc", []api.Edit{edit(0, 1, ""), edit(2, 0, "c")}},
		{"abcd", "dcba", []api.Edit{edit(0, 3, ""), edit(1, 0, "cba")}},
		{"a\uFFFD", "\uFFFD", []api.Edit{edit(0, 1, "")}},
		{"\u00e9", "e\u0301", []api.Edit{edit(0, 1, "e\u0301")}},
		{"one two", "one and two", []api.Edit{edit(4, 0, "and ")}},
	} {
		l, err := diff.Make(x.a, x.b)
		wantEdits(t, "Make("+x.a+", "+x.b+")", l, err, x.want, api.OK)
		wantMade(t, x.a, x.b, leastByTable([]rune(x.a), []rune(x.b)))
	}
}

// P5.2, P5.5: of long texts, up to the limit.
func TestMakeLong(t *testing.T) {
	rnd := rand.New(rand.NewSource(5))
	for round := range 60 {
		runes := wide[:1+rnd.Intn(len(wide))]
		if round%3 == 0 {
			runes = strings.Split("abcdefghijklmnopqrstuvwxyzäöüß€𝄞", "")
		}
		a := someText(rnd, runes, rnd.Intn(api.MaxDiff+1))
		b := someText(rnd, runes, rnd.Intn(api.MaxDiff+1))
		if round%2 == 0 { // one that comes of the other by few Edits
			b, _ = wantApply(a, someChange(rnd, runes, utf8.RuneCountInString(a)))
		}
		if utf8.RuneCountInString(b) <= api.MaxDiff {
			wantMade(t, a, b, leastByTable([]rune(a), []rune(b)))
		}
	}
}

// P5.2: MaxDiff runes may be compared, of any width; one more may not, on either side.
func TestMakeLimit(t *testing.T) {
	for _, r := range wide {
		full, over := strings.Repeat(r, api.MaxDiff), strings.Repeat(r, api.MaxDiff+1)
		other := strings.Repeat("z", api.MaxDiff)
		for _, x := range []struct {
			a, b string
			want []api.Edit
		}{
			{full, full, nil},
			{full, "", []api.Edit{edit(0, api.MaxDiff, "")}},
			{"", full, []api.Edit{edit(0, 0, full)}},
			{full, r, []api.Edit{edit(1, api.MaxDiff-1, "")}},
			{full, other, []api.Edit{edit(0, api.MaxDiff, other)}},
			{other, full, []api.Edit{edit(0, api.MaxDiff, full)}},
		} {
			l, err := diff.Make(x.a, x.b)
			wantEdits(t, "Make of "+r, l, err, x.want, api.OK)
		}
		for _, long := range []string{over, over + over, strings.Repeat(r, 100000)} {
			for _, short := range []string{"", "a", full, over, long} {
				l, err := diff.Make(long, short)
				wantEdits(t, "Make of too much of "+r, l, err, nil, api.ErrLong)
				l, err = diff.Make(short, long)
				wantEdits(t, "Make to too much of "+r, l, err, nil, api.ErrLong)
			}
		}
	}
}

// P5.2: a text that is not good, on either side, comes ahead of one that is too long.
func TestMakeOfNoText(t *testing.T) {
	long := strings.Repeat("é", api.MaxDiff+1)
	for _, bad := range notGood {
		for _, other := range []string{"", "a", long, bad, long + bad} {
			l, err := diff.Make(bad, other)
			wantEdits(t, "Make", l, err, nil, api.ErrText)
			l, err = diff.Make(other, bad)
			wantEdits(t, "Make", l, err, nil, api.ErrText)
			l, err = diff.Make(long+bad, other)
			wantEdits(t, "Make", l, err, nil, api.ErrText)
		}
	}
}

// P5.5: no way from one text to another by single runes is shorter.
func TestNoLesserWay(t *testing.T) {
	runes := []string{"a", "é", "𝄞"}
	for _, a := range every(runes, 3) {
		near := nearby(a, runes, 6)
		for _, b := range every(runes, 3) {
			if n := diff.Weight(made(t, a, b)); n != near[b] {
				t.Errorf("%q to %q: the Weight %d; there is one of %d", a, b, n, near[b])
			}
		}
	}
}

// P5.5, P5.6: of changes that are drawn: Make finds none heavier, and Invert leads back.
func TestThereAndBack(t *testing.T) {
	rnd := rand.New(rand.NewSource(6))
	for range 20000 {
		a := someText(rnd, wide, rnd.Intn(12))
		l := someChange(rnd, wide, utf8.RuneCountInString(a))
		wantApplied(t, a, l)
		b, err := diff.Apply(a, l)
		if err != api.OK {
			t.Fatalf("Apply(%q, %v): %d", a, l, int(err))
		}
		back, err := diff.Invert(a, l)
		if s, err2 := diff.Apply(b, back); s != a || err != api.OK || err2 != api.OK {
			t.Errorf("Apply(%q, %v): %q, %d, %d; want %q", b, back, s, int(err), int(err2), a)
		}
		again, err := diff.Invert(b, back)
		wantEdits(t, "Invert, and again", again, err, l, api.OK)
		if n, m := diff.Weight(l), diff.Weight(back); n != m || n != wantWeight(l) {
			t.Errorf("Weight(%v): %d; of the way back: %d", l, n, m)
		}
		if least := diff.Weight(made(t, a, b)); least > diff.Weight(l) {
			t.Errorf("%q to %q: the Weight %d, but %v leads there", a, b, least, l)
		}
	}
}

// P5.3: Edits that do nothing stay where they are, and each has its own way back.
func TestInvert(t *testing.T) {
	for _, x := range []struct {
		a       string
		l, back []api.Edit
	}{
		{"", nil, nil},
		{"é", []api.Edit{}, nil},
		{"é", []api.Edit{{}, edit(1, 0, ""), {}}, []api.Edit{{}, edit(1, 0, ""), {}}},
		{"aé𝄞b", []api.Edit{edit(1, 2, ""), edit(1, 0, "𝄞𝄞")}, []api.Edit{edit(1, 0, "é𝄞"), edit(1, 2, "")}},
		{"aé𝄞b", []api.Edit{edit(0, 1, "x"), edit(0, 1, "yz"), edit(0, 1, "")}, []api.Edit{edit(0, 1, "a"), edit(0, 2, "é"), edit(0, 0, "𝄞")}},
		{"\uFFFD", []api.Edit{edit(0, 1, "\uFFFD\uFFFD")}, []api.Edit{edit(0, 2, "\uFFFD")}},
	} {
		back, err := diff.Invert(x.a, x.l)
		wantEdits(t, "Invert of "+x.a, back, err, x.back, api.OK)
	}
}

// P5.4: Drops below 0 do not count, Texts that are not good do, and nothing wraps.
func TestWeight(t *testing.T) {
	const most = math.MaxInt
	for _, x := range []struct {
		l    []api.Edit
		want int
	}{
		{nil, 0},
		{[]api.Edit{}, 0},
		{[]api.Edit{{}}, 0},
		{[]api.Edit{edit(9, 0, ""), edit(most, 0, ""), edit(-5, 0, "")}, 0},
		{[]api.Edit{edit(0, 2, "é𝄞"), edit(1, 1, "\uFFFD")}, 6},
		{[]api.Edit{edit(0, -1, ""), edit(0, math.MinInt, "")}, 0},
		{[]api.Edit{edit(0, -1, "ab"), edit(0, 3, ""), edit(0, math.MinInt, "é")}, 6},
		{[]api.Edit{edit(-1, -1, "\xff"), edit(0, 1, "\xe2\x82a")}, 5},
		{[]api.Edit{edit(0, most, "")}, most},
		{[]api.Edit{edit(0, most-1, "é")}, most},
		{[]api.Edit{edit(0, most-1, "")}, most - 1},
		{[]api.Edit{edit(0, most-1, "éa")}, most},
		{[]api.Edit{edit(0, most, "\xff")}, most},
		{[]api.Edit{edit(0, 0, "a"), edit(0, most, "")}, most},
		{[]api.Edit{edit(0, most, ""), edit(0, most, ""), edit(0, most, "x"), edit(0, 2, "")}, most},
		{[]api.Edit{edit(0, most/2+1, ""), edit(0, most/2+1, "")}, most},
		{[]api.Edit{edit(0, most/2, ""), edit(0, most/2+1, "")}, most},
		{[]api.Edit{edit(0, most/2, ""), edit(0, most/2, "")}, most - 1},
		{[]api.Edit{edit(0, most, ""), edit(0, -4, "a")}, most},
		{[]api.Edit{edit(0, most, ""), edit(0, math.MinInt, "")}, most},
	} {
		if got := diff.Weight(x.l); got != x.want || got != wantWeight(x.l) {
			t.Errorf("Weight(%v): %d; want %d", x.l, got, x.want)
		}
	}
}

// P5.7: of a text and itself, there and back, and by a third text.
func TestWeightsOfTexts(t *testing.T) {
	texts := every([]string{"a", "é", "𝄞"}, 3)
	weight := map[[2]string]int{}
	for _, a := range texts {
		if l := made(t, a, a); len(l) != 0 {
			t.Errorf("Make(%q, %q): %v", a, a, l)
		}
		for _, b := range texts {
			weight[[2]string{a, b}] = diff.Weight(made(t, a, b))
		}
	}
	for _, a := range texts {
		for _, b := range texts {
			there := weight[[2]string{a, b}]
			if back := weight[[2]string{b, a}]; there != back {
				t.Errorf("%q, %q: there %d, back %d", a, b, there, back)
			}
			for _, c := range texts {
				if by := weight[[2]string{a, c}] + weight[[2]string{c, b}]; there > by {
					t.Errorf("%q, %q: %d, but by %q: %d", a, b, there, c, by)
				}
			}
		}
	}
}

// P5.7: what both begin or end with alike makes no difference to the Weight.
func TestAlikeEnds(t *testing.T) {
	texts := every([]string{"a", "é"}, 3)
	for _, a := range texts {
		for _, b := range texts {
			want := diff.Weight(made(t, a, b))
			for _, c := range texts {
				for _, n := range []int{
					diff.Weight(made(t, c+a, c+b)),
					diff.Weight(made(t, a+c, b+c)),
					diff.Weight(made(t, c+a+c, c+b+c)),
				} {
					if n != want {
						t.Errorf("%q, %q: %d, with %q: %d", a, b, want, c, n)
					}
				}
			}
		}
	}
}

// P5.8: a list is as it was after each call, its spare room too, of good changes and of others.
func TestUnchanged(t *testing.T) {
	last := api.Edit{Keep: 7, Drop: 8, Text: "spare"}
	for _, l := range [][]api.Edit{
		{last},
		{edit(1, 1, "ex"), last},
		{{}, edit(0, 1, ""), edit(1, 0, "é"), last},
		{edit(1, 1, "ex"), edit(-1, 0, ""), last},
		{edit(1, 1, "ex"), edit(0, 0, "\xff"), last},
		{edit(1, 1, "ex"), edit(0, math.MaxInt, ""), last},
	} {
		before := slices.Clone(l)
		short := l[:len(l)-1]
		diff.Apply("héy", short)
		diff.Invert("héy", short)
		diff.Weight(short)
		if !slices.Equal(l, before) {
			t.Errorf("%v became %v", before, l)
		}
	}
}

// P5.8: what was answered, and what was handed in, have nothing to do with each other afterwards; nor have two answers.
func TestNewMemory(t *testing.T) {
	spoil := func(l []api.Edit) {
		l = l[:cap(l)]
		for i := range l {
			l[i] = api.Edit{Keep: -9, Drop: -9, Text: "spoilt"}
		}
	}
	first, second := made(t, "kitten", "sitting"), made(t, "kitten", "sitting")
	spoil(first)
	want := []api.Edit{edit(0, 1, "s"), edit(3, 1, "i"), edit(1, 0, "g")}
	wantEdits(t, "Make, once more", second, api.OK, want, api.OK)
	wantEdits(t, "Make, a third time", made(t, "kitten", "sitting"), api.OK, want, api.OK)

	l := []api.Edit{edit(1, 1, "ex"), edit(0, 1, "")}
	wantBack := []api.Edit{edit(1, 2, "é"), edit(0, 0, "y")}
	back, err := diff.Invert("héy", l)
	other, _ := diff.Invert("héy", l)
	spoil(other)
	wantEdits(t, "Invert's list", l, api.OK, []api.Edit{edit(1, 1, "ex"), edit(0, 1, "")}, api.OK)
	spoil(l)
	wantEdits(t, "Invert", back, err, wantBack, api.OK)
}

// within tells whether one text is a piece of another one's memory.
func within(part, whole string) bool {
	if part == "" || whole == "" {
		return false
	}
	at, from := uintptr(unsafe.Pointer(unsafe.StringData(part))), uintptr(unsafe.Pointer(unsafe.StringData(whole)))
	return at+uintptr(len(part)) > from && at < from+uintptr(len(whole))
}

// P5.8: no text that is answered is a piece of one that was handed in.
func TestNewTexts(t *testing.T) {
	a, b := strings.Repeat("héy", 20), strings.Repeat("hüy", 20)
	there := made(t, a, b)
	back, _ := diff.Invert(a, there)
	for i := range there {
		if within(there[i].Text, b) || within(back[i].Text, a) {
			t.Errorf("the Edit %d has a piece of a text", i)
		}
	}
	for _, l := range [][]api.Edit{nil, {{}}, {edit(60, 0, "")}, {edit(0, 60, a)}} {
		if s, err := diff.Apply(a, l); s != a || err != api.OK || within(s, a) {
			t.Errorf("Apply of %d Edits: %q, %d", len(l), s, int(err))
		}
	}
}

// W1: long texts and long changes are gone through once.
func TestLong(t *testing.T) {
	const n = 300000
	a, want := strings.Repeat("é𝄞", n)+"é", strings.Repeat("éxa", n)+"é"
	l := slices.Repeat([]api.Edit{edit(1, 1, "xa")}, n)
	got, err := diff.Apply(a, l)
	if got != want || err != api.OK {
		t.Errorf("Apply: %d bytes, %d; want %d", len(got), int(err), len(want))
	}
	back, err := diff.Invert(a, l)
	wantEdits(t, "Invert", back[:2], err, []api.Edit{edit(1, 2, "𝄞"), edit(1, 2, "𝄞")}, api.OK)
	if s, err := diff.Apply(want, back); s != a || err != api.OK {
		t.Errorf("and back: %d bytes, %d", len(s), int(err))
	}
	if w := diff.Weight(l); w != 3*n {
		t.Errorf("Weight: %d; want %d", w, 3*n)
	}
	if s, err := diff.Apply(a, append(l, api.Edit{Keep: 2})); s != "" || err != api.ErrIndex {
		t.Errorf("Apply of one too much: %d bytes, %d", len(s), int(err))
	}
}
