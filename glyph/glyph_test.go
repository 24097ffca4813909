package glyph_test

import (
	"iter"
	"math"
	"slices"
	"strings"
	"testing"

	"hearsay/api"
	"hearsay/glyph"
)

// found is what an iterator hands on.
type found struct {
	at int
	r  rune
}

func goneThrough(it iter.Seq2[int, rune]) []found {
	var l []found
	for at, r := range it {
		l = append(l, found{at, r})
	}
	return l
}

func wantDecode(t *testing.T, s string, at int, r rune, n int, ok bool) {
	t.Helper()
	if gr, gn, gok := glyph.Decode(s, at); gr != r || gn != n || gok != ok {
		t.Errorf("Decode(%x, %d): %x, %d, %v; want %x, %d, %v", s, at, gr, gn, gok, r, n, ok)
	}
}

func wantLast(t *testing.T, s string, end int, r rune, n int, ok bool) {
	t.Helper()
	if gr, gn, gok := glyph.Last(s, end); gr != r || gn != n || gok != ok {
		t.Errorf("Last(%x, %d): %x, %d, %v; want %x, %d, %v", s, end, gr, gn, gok, r, n, ok)
	}
}

func wantCut(t *testing.T, s string, n int, a, b string) {
	t.Helper()
	if ga, gb := glyph.Cut(s, n); ga != a || gb != b {
		t.Errorf("Cut(%x, %d): %x, %x; want %x, %x", s, n, ga, gb, a, b)
	}
}

// outside is numbers that are no place of a text of that length.
func outside(length int) []int {
	return []int{math.MinInt, math.MinInt + 1, math.MinInt32, -5, -2, -1, length + 1, length + 2, length + 5, math.MaxInt32, math.MaxInt - 1, math.MaxInt}
}

// TestExamples: all rows of the chapter's examples.
func TestExamples(t *testing.T) {
	const bad = "\xef\xbf\xbd"
	wantDecode(t, "é", 0, 0xe9, 2, true)
	wantDecode(t, "é", 1, api.Bad, 1, false)
	wantDecode(t, "é", 2, 0, 0, false)
	wantDecode(t, "é", -1, 0, 0, false)
	wantDecode(t, "\xed\xa0\x80", 0, api.Bad, 1, false)
	wantDecode(t, "\xc0\x80", 0, api.Bad, 1, false)
	wantDecode(t, "\xf4\x90\x80\x80", 0, api.Bad, 1, false)
	wantDecode(t, "\xf0\x9d\x84\x9e", 0, 0x1d11e, 4, true)
	wantDecode(t, bad, 0, api.Bad, 3, true)
	wantDecode(t, "\xe2\x82", 0, api.Bad, 1, false)
	wantLast(t, "aé", 3, 0xe9, 2, true)
	wantLast(t, "aé", 2, api.Bad, 1, false)
	wantLast(t, "\xe2\x82", 2, api.Bad, 1, false)
	wantLast(t, "a", 0, 0, 0, false)
	wantCut(t, "héy", 2, "hé", "y")
	wantCut(t, "héy", -1, "", "héy")
	wantCut(t, "héy", 9, "héy", "")
	wantCut(t, "\xe2\x82a", 2, "\xe2\x82", "a")
	for _, x := range []struct {
		call      string
		got, want any
	}{
		{"Encode(20ac)", glyph.Encode(0x20ac), "\xe2\x82\xac"},
		{"Encode(d800)", glyph.Encode(0xd800), bad},
		{"Encode(110000)", glyph.Encode(0x110000), bad},
		{"Encode(-1)", glyph.Encode(-1), bad},
		{"BadAt(`aé`)", glyph.BadAt("aé"), -1},
		{"BadAt(61 e2 82 61)", glyph.BadAt("a\xe2\x82a"), 1},
		{"BadAt(nothing)", glyph.BadAt(""), -1},
		{"Count(61 e2 82 61)", glyph.Count("a\xe2\x82a"), 4},
		{"Mend(e2 82)", glyph.Mend("\xe2\x82"), bad + bad},
		{"Text({61, -1, 1d11e})", glyph.Text([]rune{0x61, -1, 0x1d11e}), "\x61" + bad + "\xf0\x9d\x84\x9e"},
	} {
		if x.got != x.want {
			t.Errorf("%s: %v; want %v", x.call, x.got, x.want)
		}
	}
	if l := glyph.Runes("a\xff"); !slices.Equal(l, []rune{0x61, 0xfffd}) {
		t.Errorf("Runes(61 ff): %x", l)
	}
	want := []found{{0, 0xe9}, {2, api.Bad}, {3, 0x7a}}
	if l := goneThrough(glyph.All("\xc3\xa9\xff\x7a")); !slices.Equal(l, want) {
		t.Errorf("All(c3 a9 ff 7a): %x", l)
	}
	slices.Reverse(want)
	if l := goneThrough(glyph.Back("\xc3\xa9\xff\x7a")); !slices.Equal(l, want) {
		t.Errorf("Back(c3 a9 ff 7a): %x", l)
	}
}

// TestDecode: P1.1, at every byte of every text, within runes too, and at what is no byte of it.
func TestDecode(t *testing.T) {
	for s := range texts() {
		for at := range len(s) {
			p := begin(s, at)
			wantDecode(t, s, at, p.r, p.width, p.good)
		}
		wantDecode(t, s, len(s), 0, 0, false)
	}
	for _, s := range known {
		for _, at := range outside(len(s)) {
			wantDecode(t, s, at, 0, 0, false)
		}
	}
}

// TestDecodeEdges: P1.1, about c1, e0 9f, ed a0, f0 8f and f4 90, at both sides of each edge.
func TestDecodeEdges(t *testing.T) {
	for _, x := range []struct {
		s string
		r rune
	}{
		{"\xc1\xbf", -1}, {"\xc2\x80", 0x80}, {"\xc2\x7f", -1}, {"\xc2\xc0", -1}, {"\xdf\xbf", 0x7ff},
		{"\xe0\x9f\xbf", -1}, {"\xe0\xa0\x80", 0x800}, {"\xe0\xbf\xbf", 0xfff}, {"\xe0\xc0\x80", -1},
		{"\xe1\x7f\x80", -1}, {"\xe1\x80\x80", 0x1000}, {"\xec\xbf\xbf", 0xcfff}, {"\xe1\x80\x7f", -1}, {"\xe1\x80\xc0", -1},
		{"\xed\x7f\xbf", -1}, {"\xed\x80\x80", 0xd000}, {"\xed\x9f\xbf", 0xd7ff}, {"\xed\xa0\x80", -1}, {"\xed\xbf\xbf", -1},
		{"\xee\x80\x80", 0xe000}, {"\xef\xbf\xbf", 0xffff},
		{"\xf0\x8f\xbf\xbf", -1}, {"\xf0\x90\x80\x80", 0x10000}, {"\xf0\xbf\xbf\xbf", 0x3ffff}, {"\xf0\xc0\x80\x80", -1},
		{"\xf1\x80\x80\x80", 0x40000}, {"\xf3\xbf\xbf\xbf", 0xfffff}, {"\xf1\x80\x7f\x80", -1}, {"\xf1\x80\x80\xc0", -1},
		{"\xf4\x80\x80\x80", 0x100000}, {"\xf4\x8f\xbf\xbf", 0x10ffff}, {"\xf4\x90\x80\x80", -1}, {"\xf5\x80\x80\x80", -1},
		{"\x00", 0}, {"\x7f", 0x7f}, {"\x80", -1}, {"\xbf", -1}, {"\xff", -1},
	} {
		want := piece{0, len(x.s), x.r, true}
		if x.r < 0 {
			want = piece{0, 1, api.Bad, false}
		}
		wantDecode(t, x.s, 0, want.r, want.width, want.good)
		wantDecode(t, "z"+x.s+"z", 1, want.r, want.width, want.good)
	}
}

// TestDecodeAll: P1.1, of every text of three bytes, and of every rune, whole and cut off.
func TestDecodeAll(t *testing.T) {
	for _, f := range forms {
		for _, p := range f.first {
			for c := int(p.low); c <= int(p.high); c++ {
				eachBehind(string([]byte{byte(c)}), f.behind, func(s string) {
					wantDecode(t, s, 0, f.number(s), len(s), true)
					if len(s) > 1 {
						wantDecode(t, s[:len(s)-1], 0, api.Bad, 1, false)
					}
				})
			}
		}
	}
	every := span{0x00, 0xff}
	eachBehind("", []span{every, every, every}, func(s string) {
		p := begin(s, 0)
		wantDecode(t, s, 0, p.r, p.width, p.good)
	})
}

// ends is the piece that ends ahead of a byte, worked out from every byte at which a rune may begin.
func ends(s string, end int) piece {
	for at := range end {
		if p := begin(s, at); p.good && at+p.width == end {
			return p
		}
	}
	return piece{end - 1, 1, api.Bad, false}
}

// TestLast: P1.2, ahead of every byte of every text, within runes too, and ahead of what is none.
func TestLast(t *testing.T) {
	for s := range texts() {
		for end := 1; end <= len(s); end++ {
			p := ends(s, end)
			wantLast(t, s, end, p.r, p.width, p.good)
		}
		wantLast(t, s, 0, 0, 0, false)
	}
	for _, s := range known {
		for _, end := range outside(len(s)) {
			wantLast(t, s, end, 0, 0, false)
		}
	}
	wantLast(t, "x𝄞", 5, 0x1d11e, 4, true)
	wantLast(t, "𝄞", 3, api.Bad, 1, false)
	wantLast(t, "\xe2\x82\xac\x80", 4, api.Bad, 1, false)
	wantLast(t, "\xef\xbf\xbd", 3, api.Bad, 3, true)
}

// TestEncode: P1.3, of every rune, and of numbers that are none.
func TestEncode(t *testing.T) {
	seen := 0
	for n := range 0x110000 {
		s := glyph.Encode(rune(n))
		if !isRune(n) {
			if s != "\xef\xbf\xbd" {
				t.Fatalf("Encode(%x): %x", n, s)
			}
			continue
		}
		if p := begin(s+"\x80", 0); !p.good || int(p.r) != n || p.width != len(s) {
			t.Fatalf("Encode(%x): %x", n, s)
		}
		seen++
	}
	if seen != 0x110000-0x800 {
		t.Errorf("%x runes", seen)
	}
	for _, r := range []rune{-1, -2, math.MinInt32, math.MaxInt32, 0x110000, 0x110041, 0x1fffff, 0xd800, 0xdfff, -0x10ffff} {
		if s := glyph.Encode(r); s != "\xef\xbf\xbd" {
			t.Errorf("Encode(%x): %x", r, s)
		}
	}
}

// TestBadAt: P1.4.
func TestBadAt(t *testing.T) {
	for s := range texts() {
		want := -1
		if i := slices.IndexFunc(cut(s), func(p piece) bool { return !p.good }); i >= 0 {
			want = cut(s)[i].at
		}
		if at := glyph.BadAt(s); at != want {
			t.Errorf("BadAt(%x): %d; want %d", s, at, want)
		}
	}
	for s, want := range map[string]int{"\xef\xbf\xbd": -1, "\xef\xbf\xbd\xff": 3, "\xff": 0, "𝄞\xf0\x9d\x84": 4, "aé\x80": 3} {
		if at := glyph.BadAt(s); at != want {
			t.Errorf("BadAt(%x): %d; want %d", s, at, want)
		}
	}
}

// mended is P1.5's Mend by the table.
func mended(s string) string {
	var b strings.Builder
	for _, p := range cut(s) {
		if p.good {
			b.WriteString(s[p.at : p.at+p.width])
		} else {
			b.WriteString("\xef\xbf\xbd")
		}
	}
	return b.String()
}

// TestCountMend: P1.5.
func TestCountMend(t *testing.T) {
	for s := range texts() {
		if n := glyph.Count(s); n != len(cut(s)) {
			t.Errorf("Count(%x): %d; want %d", s, n, len(cut(s)))
		}
		if m := glyph.Mend(s); m != mended(s) {
			t.Errorf("Mend(%x): %x; want %x", s, m, mended(s))
		}
	}
}

// TestAllBack: P1.6.
func TestAllBack(t *testing.T) {
	for s := range texts() {
		var want []found
		for _, p := range cut(s) {
			want = append(want, found{p.at, p.r})
		}
		if l := goneThrough(glyph.All(s)); !slices.Equal(l, want) {
			t.Errorf("All(%x): %x; want %x", s, l, want)
		}
		slices.Reverse(want)
		if l := goneThrough(glyph.Back(s)); !slices.Equal(l, want) {
			t.Errorf("Back(%x): %x; want %x", s, l, want)
		}
	}
}

// stopAt goes through an iterator by hand, says stop at the n-th one, and counts what is handed on.
func stopAt(it iter.Seq2[int, rune], n int) int {
	seen := 0
	it(func(int, rune) bool {
		seen++
		return seen < n
	})
	return seen
}

// TestIteratorsStop: W1, nothing more is handed on as soon as they are told to stop.
func TestIteratorsStop(t *testing.T) {
	for _, s := range known {
		all, back := glyph.All(s), glyph.Back(s)
		for n := 1; n <= len(cut(s)); n++ {
			if k := stopAt(all, n); k != n {
				t.Errorf("All(%x) stopped at %d: %d", s, n, k)
			}
			if k := stopAt(back, n); k != n {
				t.Errorf("Back(%x) stopped at %d: %d", s, n, k)
			}
		}
	}
}

// TestIteratorsAgain: W7, as often as one likes, one inside another too, and never nil.
func TestIteratorsAgain(t *testing.T) {
	for _, s := range known {
		for _, it := range []iter.Seq2[int, rune]{glyph.All(s), glyph.Back(s)} {
			if it == nil {
				t.Fatalf("nil of %x", s)
			}
			want := goneThrough(it)
			var outer []found
			for at, r := range it {
				outer = append(outer, found{at, r})
				if l := goneThrough(it); !slices.Equal(l, want) {
					t.Errorf("%x: inside %x; want %x", s, l, want)
				}
				for range it {
					break
				}
			}
			if !slices.Equal(outer, want) || !slices.Equal(goneThrough(it), want) {
				t.Errorf("%x: %x; want %x", s, outer, want)
			}
		}
	}
}

// numbers is lists of runes, and of what is none.
func numbers() [][]rune {
	return [][]rune{
		nil, {}, {0}, {'a', 'b'}, {0xe9, 0x20ac, 0x1d11e}, {api.Bad},
		{-1}, {math.MinInt32, math.MaxInt32}, {0xd7ff, 0xd800, 0xdbff, 0xdc00, 0xdfff, 0xe000}, {0x10ffff, 0x110000},
		{0xd834, 0xdd1e}, {0x7f, 0x80, 0x7ff, 0x800, 0xffff, 0x10000}, {0xe2, 0x82, 0xac},
	}
}

// replaced is l with api.Bad for what is no rune.
func replaced(l []rune) []rune {
	out := slices.Clone(l)
	for i, r := range out {
		if !isRune(int(r)) {
			out[i] = api.Bad
		}
	}
	return out
}

// TestRunesText: P1.7.
func TestRunesText(t *testing.T) {
	for s := range texts() {
		var want []rune
		for _, p := range cut(s) {
			want = append(want, p.r)
		}
		if l := glyph.Runes(s); !slices.Equal(l, want) {
			t.Errorf("Runes(%x): %x; want %x", s, l, want)
		}
	}
	for _, l := range numbers() {
		want := ""
		for _, r := range l {
			want += glyph.Encode(r)
		}
		if s := glyph.Text(l); s != want {
			t.Errorf("Text(%x): %x; want %x", l, s, want)
		}
	}
}

// TestCut: P1.8.
func TestCut(t *testing.T) {
	for s := range texts() {
		pieces := cut(s)
		for n, p := range pieces {
			wantCut(t, s, n, s[:p.at], s[p.at:])
		}
		wantCut(t, s, len(pieces), s, "")
		wantCut(t, s, len(pieces)+1, s, "")
		wantCut(t, s, -1, "", s)
	}
	for _, s := range known {
		wantCut(t, s, math.MinInt, "", s)
		wantCut(t, s, math.MaxInt, s, "")
	}
}

// TestBothWays: P1.9, the pieces as they stand are the text, and the same from both ends.
func TestBothWays(t *testing.T) {
	for s := range texts() {
		var on, back []string
		for at := 0; at < len(s); {
			_, n, _ := glyph.Decode(s, at)
			on = append(on, s[at:at+n])
			at += n
		}
		for end := len(s); end > 0; {
			_, n, _ := glyph.Last(s, end)
			back = append(back, s[end-n:end])
			end -= n
		}
		slices.Reverse(back)
		if strings.Join(on, "") != s || !slices.Equal(on, back) {
			t.Errorf("%x: %x by Decode, %x by Last", s, on, back)
		}
	}
}

// TestMended: P1.10.
func TestMended(t *testing.T) {
	for s := range texts() {
		m := glyph.Mend(s)
		if glyph.BadAt(m) != -1 || glyph.BadAt(s) == -1 && m != s {
			t.Errorf("Mend(%x): %x", s, m)
		}
		l := glyph.Runes(s)
		if x := glyph.Text(l); x != m {
			t.Errorf("Text(Runes(%x)): %x; Mend: %x", s, x, m)
		}
		if n := glyph.Count(s); n != len(l) || n != glyph.Count(m) {
			t.Errorf("Count(%x): %d; %d runes, %d mended", s, n, len(l), glyph.Count(m))
		}
	}
	for _, l := range numbers() {
		if x := glyph.Runes(glyph.Text(l)); !slices.Equal(x, replaced(l)) {
			t.Errorf("Runes(Text(%x)): %x", l, x)
		}
	}
}

// TestTogether: P1.11, good texts one behind the other, and bad bytes that come together.
func TestTogether(t *testing.T) {
	for _, a := range known {
		for _, b := range known {
			together := append(glyph.Runes(a), glyph.Runes(b)...)
			good := glyph.BadAt(a) == -1 && glyph.BadAt(b) == -1
			n := glyph.Count(a + b)
			if good && (n != glyph.Count(a)+glyph.Count(b) || !slices.Equal(glyph.Runes(a+b), together)) {
				t.Errorf("%x and %x: %d, %x", a, b, n, glyph.Runes(a+b))
			}
			if n > len(together) {
				t.Errorf("%x and %x: %d is more than %d", a, b, n, len(together))
			}
		}
	}
	for _, x := range []struct {
		a, b string
		n    int
		l    []rune
	}{
		{"\xe2\x82", "\xac", 1, []rune{0x20ac}},
		{"\xe2", "\x82\xac", 1, []rune{0x20ac}},
		{"a\xf0\x9d", "\x84\x9ez", 3, []rune{'a', 0x1d11e, 'z'}},
		{"\xc3", "\xa9\xa9", 2, []rune{0xe9, api.Bad}},
		{"\xed", "\xa0\x80", 3, []rune{api.Bad, api.Bad, api.Bad}},
	} {
		if n, l := glyph.Count(x.a+x.b), glyph.Runes(x.a+x.b); n != x.n || !slices.Equal(l, x.l) {
			t.Errorf("%x and %x: %d, %x", x.a, x.b, n, l)
		}
	}
}

// TestNewMemory: W6, of lists that are answered and lists that are handed in.
func TestNewMemory(t *testing.T) {
	for _, s := range known {
		a, b := glyph.Runes(s), glyph.Runes(s)
		want := slices.Clone(b)
		for i := range a[:cap(a)] {
			a[:cap(a)][i] = 'x'
		}
		if !slices.Equal(b, want) || !slices.Equal(glyph.Runes(s), want) {
			t.Errorf("Runes(%x) shares", s)
		}
	}
	room := []rune{'a', -1, 0x1d11e, 'q', 'q'}
	s := glyph.Text(room[:3])
	if !slices.Equal(room, []rune{'a', -1, 0x1d11e, 'q', 'q'}) {
		t.Errorf("Text changed its argument: %x", room)
	}
	room[0] = 'z'
	if s != "a\xef\xbf\xbd𝄞" {
		t.Errorf("Text kept its argument: %x", s)
	}
}

// TestLong: W1, texts of a megabyte and more, of good runes and of bad bytes.
func TestLong(t *testing.T) {
	for _, unit := range []string{"a", "𝄞", "\x80", "\xe2\x82", "\xf0\x9d\x84", "é\xff"} {
		s := strings.Repeat(unit, 1<<20)
		n := len(cut(unit)) << 20
		if glyph.Count(s) != n || len(glyph.Runes(s)) != n || glyph.Mend(s) != strings.Repeat(mended(unit), 1<<20) {
			t.Errorf("%x: %d", unit, glyph.Count(s))
		}
		back := 0
		for range glyph.Back(s) {
			back++
		}
		if back != n {
			t.Errorf("Back of %x: %d", unit, back)
		}
		wantCut(t, s, n/2, s[:len(s)/2], s[len(s)/2:])
	}
}
