package quote_test

import (
	"fmt"
	"math"
	"math/rand"
	"slices"
	"strconv"
	"strings"
	"testing"

	"hearsay/api"
	"hearsay/quote"
)

func plain(text string, at, line int) item {
	return item{api.Word{Kind: api.WordPlain, Text: text, At: at, Line: line}, api.OK}
}

func quoted(text string, at, line int) item {
	return item{api.Word{Kind: api.WordQuoted, Text: text, At: at, Line: line}, api.OK}
}

func number(n, at, line int) item {
	return item{api.Word{Kind: api.WordNumber, Num: n, At: at, Line: line}, api.OK}
}

func ends(at, line int) item {
	return item{api.Word{Kind: api.WordEnd, At: at, Line: line}, api.OK}
}

func fault(err api.Errno, at, line int) item {
	return item{api.Word{At: at, Line: line}, err}
}

func scanned(s string) []item {
	var l []item
	for w, err := range quote.Scan(s) {
		l = append(l, item{w, err})
	}
	return l
}

func wantWords(t *testing.T, s string, want ...item) {
	t.Helper()
	if got := scanned(s); !slices.Equal(got, want) {
		t.Errorf("Scan(%+q): %v; want %v", s, got, want)
	}
}

// width is how many bytes a word has in its text.
func width(s string, w api.Word) int {
	switch w.Kind {
	case api.WordPlain:
		return len(w.Text)
	case api.WordNumber:
		return len(strconv.Itoa(w.Num))
	case api.WordQuoted:
		_, end, _ := wantRead(s[w.At:])
		return end
	}
	return 0
}

// wantRise holds what was handed on against P4.6, and against what comes with an error.
func wantRise(t *testing.T, s string, l []item) {
	t.Helper()
	behind, line := 0, 1
	for i, x := range l {
		if x.word.At < behind || x.word.At > len(s) || x.word.Line < line || i > 0 && x.word.At <= l[i-1].word.At {
			t.Fatalf("Scan(%+q): %v does not rise", s, l)
		}
		if x.err != api.OK && (i != len(l)-1 || x.word != (api.Word{At: x.word.At, Line: x.word.Line})) {
			t.Fatalf("Scan(%+q): %v has something with an error or behind it", s, l)
		}
		behind, line = x.word.At+width(s, x.word), x.word.Line
	}
}

// P4.3: the chapter's examples.
func TestScanExamples(t *testing.T) {
	wantWords(t, `ab -7 "x y"#r`, plain("ab", 0, 1), number(-7, 3, 1), quoted("x y", 6, 1), ends(13, 1))
	wantWords(t, "\n\n  # r")
	wantWords(t, "\r\n\r \t# r")
	wantWords(t, "a\r\nb", plain("a", 0, 1), ends(1, 1), plain("b", 3, 2), ends(4, 2))
	wantWords(t, "a 07", plain("a", 0, 1), fault(api.ErrForm, 2, 1))
	wantWords(t, `a "b"c`, plain("a", 0, 1), fault(api.ErrQuote, 5, 1))
	wantWords(t, `a"b`, fault(api.ErrQuote, 1, 1))
	wantWords(t, "7x", fault(api.ErrForm, 0, 1))
	wantWords(t, "-", plain("-", 0, 1), ends(1, 1))
	wantWords(t, "\x61\xff", fault(api.ErrText, 1, 1))
}

// P4.3: plain words, each byte of ASCII and other runes.
func TestScanOfPlainWords(t *testing.T) {
	for _, w := range []string{
		"a", "Ab_c", "-", "--", "-a", "-a7", "--7", "+7", "a7", "a-7", ".7", "-.7", "_1", `\`, `\n`, `\x41`, "'", "é", "-é", "𝄞",
		"\ufffd", "\u0085", "\u00a0", "\u200b", "\u2028", "\ufeff", "\U0010ffff", "\u0667", "-\u0667", "\uff17", "e\u0301", "nul", "x{}",
	} {
		wantWords(t, w, plain(w, 0, 1), ends(len(w), 1))
		wantWords(t, " "+w+"\t"+w+"#"+w+"\n"+w, plain(w, 1, 1), plain(w, 2+len(w), 1), ends(3+3*len(w), 1), plain(w, 4+3*len(w), 2), ends(4+4*len(w), 2))
	}
	for n := range 128 {
		s := "a" + string(rune(n)) + "b"
		switch {
		case strings.ContainsRune(" \t", rune(n)):
			wantWords(t, s, plain("a", 0, 1), plain("b", 2, 1), ends(3, 1))
		case strings.ContainsRune("\n\r", rune(n)):
			wantWords(t, s, plain("a", 0, 1), ends(1, 1), plain("b", 2, 2), ends(3, 2))
		case n == '#':
			wantWords(t, s, plain("a", 0, 1), ends(3, 1))
		case n == '"':
			wantWords(t, s, fault(api.ErrQuote, 1, 1))
		case n < 0x20 || n == 0x7f:
			wantWords(t, s, fault(api.ErrText, 1, 1))
		default:
			wantWords(t, s, plain(s, 0, 1), ends(3, 1))
		}
	}
}

// P4.3
func TestScanOfNumbers(t *testing.T) {
	for _, n := range []int{0, 1, -1, 9, 10, -10, 12345678901, math.MaxInt32, math.MinInt32, math.MaxInt64 - 1, math.MaxInt64, math.MinInt64 + 1, math.MinInt64} {
		w := strconv.Itoa(n)
		wantWords(t, w, number(n, 0, 1), ends(len(w), 1))
		wantWords(t, "\t"+w+" "+w+"#", number(n, 1, 1), number(n, 2+len(w), 1), ends(3+2*len(w), 1))
		wantWords(t, w+"\r"+w+"\n", number(n, 0, 1), ends(len(w), 1), number(n, 1+len(w), 2), ends(1+2*len(w), 2))
	}
	for _, w := range []string{
		"-0", "00", "01", "07", "-00", "-01", "000", "0x1", "0b1", "0o7", "0_1", "1_000", "1.5", "1e3", "7x", "-7x", "7-", "-7-", "7-7", "1+1", "7é", `7\`,
		"9223372036854775808", "9223372036854775809", "-9223372036854775809", "-9223372036854775810", "18446744073709551615", "18446744073709551616", "18446744073709551617",
		"10000000000000000000", "99999999999999999999", "-99999999999999999999", "09223372036854775807", "340282366920938463463374607431768211457",
	} {
		wantWords(t, w, fault(api.ErrForm, 0, 1))
		wantWords(t, "a\n "+w+" b", plain("a", 0, 1), ends(1, 1), fault(api.ErrForm, 3, 2))
	}
}

// P4.3
func TestScanOfQuotedTexts(t *testing.T) {
	wantWords(t, `""`, quoted("", 0, 1), ends(2, 1))
	wantWords(t, `"#" "\"\\\n" "7"`, quoted("#", 0, 1), quoted("\"\\\n", 4, 1), quoted("7", 13, 1), ends(16, 1))
	wantWords(t, `"\xff\u{1f600}é"`, quoted("\xff\U0001f600é", 0, 1), ends(17, 1))
	for _, behind := range []string{"", " ", "\t", "#", "\n", "\r", "\r\n"} {
		end := 3
		if behind != "\n" && behind != "\r" && behind != "\r\n" {
			end += len(behind)
		}
		wantWords(t, `"a"`+behind, quoted("a", 0, 1), ends(end, 1))
	}
	for n := range 256 {
		b := string([]byte{byte(n)})
		if !strings.Contains(" \t#\n\r", b) {
			wantWords(t, `x "a"`+b, plain("x", 0, 1), fault(api.ErrQuote, 5, 1))
		}
	}
	for s, at := range map[string]int{
		`"`: 1, `"a`: 2, "\"a\n\"": 2, "\"a\r\"": 2, "\"a\r\nb\"": 2, "\"\t\"": 1, "\"a#\n": 3, `"\`: 1, "\"\\\n": 1, "\"\\\r\n\"": 1, "\"\\x4\n1\"": 1, "\"\\u{4\n1}\"": 1,
		`"\q"`: 1, `"a\u{d800}"c`: 2, "\"\xff\"": 1, "\"\x7f\"": 1, "\"\x00\"": 1, `"a"b"`: 3, `"a""b"`: 3, `"a"\n`: 3,
	} {
		wantWords(t, s, fault(api.ErrQuote, at, 1))
	}
	wantWords(t, `"" "a`, quoted("", 0, 1), fault(api.ErrQuote, 5, 1))
	wantWords(t, "\"\"\n\"a", quoted("", 0, 1), ends(2, 1), fault(api.ErrQuote, 5, 2))
	wantWords(t, "\n\r\r\n\"a\\n\nb\"", fault(api.ErrQuote, 8, 4))
}

// P4.3: line's ends, remarks, blanks, lines that say nothing.
func TestScanOfLines(t *testing.T) {
	wantWords(t, "")
	for _, s := range []string{" ", "\t", "#", "\n", "\r", "\r\n", "\n\r", "#\n#", " \t #\xff\"\\\x00\x7f\xc3", "#\"\r#\"\n#7x\r\n#a", "\n\n\r\r\r\n\r\n"} {
		wantWords(t, s)
	}
	a, b := plain("a", 0, 1), func(at, line int) item { return plain("b", at, line) }
	wantWords(t, "a\nb", a, ends(1, 1), b(2, 2), ends(3, 2))
	wantWords(t, "a\rb", a, ends(1, 1), b(2, 2), ends(3, 2))
	wantWords(t, "a\r\nb\r\n", a, ends(1, 1), b(3, 2), ends(4, 2))
	wantWords(t, "a\n\rb", a, ends(1, 1), b(3, 3), ends(4, 3))
	wantWords(t, "a\r\r\n\nb\r", a, ends(1, 1), b(5, 4), ends(6, 4))
	wantWords(t, "a\r\n\r\nb\n\n", a, ends(1, 1), b(5, 3), ends(6, 3))
	wantWords(t, "a # \xff\"\x00 # b\r\nb", a, ends(11, 1), b(13, 2), ends(14, 2))
	wantWords(t, "a#\rb#", a, ends(2, 1), b(3, 2), ends(5, 2))
	wantWords(t, "a \t \n \t b \t", a, ends(4, 1), b(8, 2), ends(11, 2))
	wantWords(t, "a  b\t\tb", a, b(3, 1), b(6, 1), ends(7, 1))
	wantWords(t, "\n # r\r\t\r\n  b", b(11, 4), ends(12, 4))
	wantWords(t, "a\u0085b\u2028c\n", plain("a\u0085b\u2028c", 0, 1), ends(8, 1))
	for n := range 256 {
		remark := "#" + string([]byte{byte(n)}) + "x"
		if !strings.ContainsAny(remark, "\n\r") {
			wantWords(t, "a"+remark+"\nb", a, ends(4, 1), b(5, 2), ends(6, 2))
			wantWords(t, remark)
		}
	}
}

// P4.3: what begins no rune, runes below 20 and 7f, wherever they stand in a word.
func TestScanOfBadBytes(t *testing.T) {
	for n := range 256 {
		b := string([]byte{byte(n)})
		if n >= 0x20 && n < 0x7f || strings.Contains("\t\n\r", b) {
			continue
		}
		wantWords(t, b, fault(api.ErrText, 0, 1))
		wantWords(t, "\n "+b+"a", fault(api.ErrText, 2, 2))
		wantWords(t, "b aé"+b+" 7x", plain("b", 0, 1), fault(api.ErrText, 5, 1))
		wantWords(t, "-"+b, fault(api.ErrText, 1, 1))
	}
	for _, b := range []string{"\xed\xa0\x80", "\xc0\x80", "\xf4\x90\x80\x80", "\xe2\x82", "\xef\xbf"} {
		wantWords(t, "\ufffd"+b, fault(api.ErrText, 3, 1))
	}
}

// P4.3: a word that offends in two things.
func TestScanTellsTheFirstFault(t *testing.T) {
	wantWords(t, `07"`, fault(api.ErrQuote, 2, 1))
	wantWords(t, `7x"b"`, fault(api.ErrQuote, 2, 1))
	wantWords(t, "07\xff", fault(api.ErrText, 2, 1))
	wantWords(t, "-0\x01", fault(api.ErrText, 2, 1))
	wantWords(t, "9223372036854775808\x7f", fault(api.ErrText, 19, 1))
	wantWords(t, "a\xff\"", fault(api.ErrText, 1, 1))
	wantWords(t, "a\"\xff", fault(api.ErrQuote, 1, 1))
	wantWords(t, "7\xff\"", fault(api.ErrText, 1, 1))
	wantWords(t, "7\"\xff", fault(api.ErrQuote, 1, 1))
	wantWords(t, "07 \xff", fault(api.ErrForm, 0, 1))
	wantWords(t, "07#\xff\"", fault(api.ErrForm, 0, 1))
	wantWords(t, "07\n\"", fault(api.ErrForm, 0, 1))
	wantWords(t, "\"\\q\xff", fault(api.ErrQuote, 1, 1))
	wantWords(t, "\"\xff\\q\"a", fault(api.ErrQuote, 1, 1))
	wantWords(t, "\"a\"\xff", fault(api.ErrQuote, 3, 1))
	wantWords(t, "\"a\"07", fault(api.ErrQuote, 3, 1))
}

// P4.3, P4.6: all short texts of the bytes that words are made of.
func TestScanOfAllShortTexts(t *testing.T) {
	for _, pieces := range [][]string{
		{"a", "7", "0", "-", `"`, "#", " ", "\t", "\n", "\r", `\`, "n", "\xff", "\x01", "é"},
		{"7", `"`, "#", " ", "\n", "\r", `\x4`},
		{"0", "1", "-", "9223372036854775807", "x", " "},
	} {
		n := 4
		if len(pieces) < 10 {
			n = 6
		}
		for s := range every(pieces, n) {
			got := scanned(s)
			if want := wantScan(s); !slices.Equal(got, want) {
				t.Fatalf("Scan(%+q): %v; want %v", s, got, want)
			}
			wantRise(t, s, got)
		}
	}
}

// P4.6 and W1, of any bytes.
func TestScanOfAnyBytes(t *testing.T) {
	dice := rand.New(rand.NewSource(6))
	common := "ab70-\"\"##  \t\n\r\\nxu{}41\xc3\xa9\xff"
	for i := range 100000 {
		b := make([]byte, dice.Intn(30))
		dice.Read(b)
		if i%4 != 0 {
			for j := range b {
				b[j] = common[int(b[j])%len(common)]
			}
		}
		s := string(b)
		got := scanned(s)
		if want := wantScan(s); !slices.Equal(got, want) {
			t.Fatalf("Scan(%+q): %v; want %v", s, got, want)
		}
		wantRise(t, s, got)
	}
}

// made is a text that was laid out of words, and what a scan of it has to hand on.
type made struct {
	text strings.Builder
	want []item
}

// lay lays words on a line of their own; spare ones have blanks more, remarks and lines that say nothing.
func (m *made) lay(dice *rand.Rand, words []api.Word, line int, spare bool) int {
	pick := func(l ...string) string {
		if !spare {
			return l[0]
		}
		return l[dice.Intn(len(l))]
	}
	for range dice.Intn(3) {
		if spare {
			m.text.WriteString(pick("", " ", "\t", "# \xff\"", " #7x") + pick("\n", "\r\n"))
			line++
		}
	}
	m.text.WriteString(pick("", " ", "\t "))
	for i, w := range words {
		if i > 0 {
			m.text.WriteString(pick(" ", "\t", "  ", " \t "))
		}
		w.At, w.Line = m.text.Len(), line
		m.want = append(m.want, item{w, api.OK})
		switch w.Kind {
		case api.WordQuoted:
			m.text.WriteString(quote.Quote(w.Text))
		case api.WordNumber:
			m.text.WriteString(strconv.Itoa(w.Num))
		default:
			m.text.WriteString(w.Text)
		}
	}
	m.text.WriteString(pick("", " ", "#", " # a \"\xc3"))
	m.want = append(m.want, ends(m.text.Len(), line))
	m.text.WriteString(pick("\n", "\r\n"))
	return line + 1
}

// P4.5
func TestScanOfTextsMadeOfWords(t *testing.T) {
	dice := rand.New(rand.NewSource(5))
	anyWord := func() api.Word {
		switch dice.Intn(3) {
		case 0:
			b := make([]byte, dice.Intn(6))
			dice.Read(b)
			return api.Word{Kind: api.WordQuoted, Text: string(b)}
		case 1:
			return api.Word{Kind: api.WordNumber, Num: int(dice.Uint64()) >> dice.Intn(64)}
		}
		return api.Word{Kind: api.WordPlain, Text: []string{"a", "insert", "-", "-x", "é", "x7", `\n`, "\ufffd", "+1"}[dice.Intn(9)]}
	}
	for range 3000 {
		var bare, wide made
		line, wideLine := 1, 1
		for range dice.Intn(5) {
			var words []api.Word
			for range 1 + dice.Intn(5) {
				words = append(words, anyWord())
			}
			line = bare.lay(dice, words, line, false)
			wideLine = wide.lay(dice, words, wideLine, true)
		}
		wantWords(t, bare.text.String(), bare.want...)
		wantWords(t, wide.text.String(), wide.want...)
		wantSameWords(t, wide.text.String(), bare.text.String())
	}
}

// wantSameWords holds two texts against each other that may differ in At and Line alone.
func wantSameWords(t *testing.T, a, b string) {
	t.Helper()
	unplaced := func(s string) []item {
		l := scanned(s)
		for i := range l {
			l[i].word.At, l[i].word.Line = 0, 0
		}
		return l
	}
	if !slices.Equal(unplaced(a), unplaced(b)) {
		t.Errorf("%+q and %+q are scanned into unlike words", a, b)
	}
}

// W1: told to stop, a scan hands on nothing more, wherever it is told.
func TestScanStops(t *testing.T) {
	for _, s := range []string{
		"a -7 \"x y\" # r\r\n\n0 \"\"\rb", "a 07", "a \"b", "a\xff", "a", "a\n", "a#\n\n b", "\"b\"c", "",
	} {
		whole := scanned(s)
		for n := 1; n <= len(whole)+1; n++ {
			var got []item
			quote.Scan(s)(func(w api.Word, err api.Errno) bool {
				got = append(got, item{w, err})
				return len(got) < n
			})
			if want := whole[:min(n, len(whole))]; !slices.Equal(got, want) {
				t.Errorf("Scan(%+q), stopped at %d: %v; want %v", s, n, got, want)
			}
		}
	}
}

// W7: one scan is gone through twice, after a stop, and by a loop inside a loop.
func TestScanIsGoneThroughAgain(t *testing.T) {
	s := "a 7 \"q\"\n\n#r\nb 8\r\n"
	want := scanned(s)
	for _, text := range []string{s, s + "07"} {
		want := slices.Clone(want)
		if text != s {
			want = append(want, fault(api.ErrForm, len(s), 5))
		}
		scan := quote.Scan(text)
		for range scan {
			break
		}
		outer := 0
		for w, err := range scan {
			if (item{w, err}) != want[outer] {
				t.Errorf("outer %d: %v, %d; want %v", outer, w, err, want[outer])
			}
			outer++
			inner := 0
			for w, err := range scan {
				if (item{w, err}) != want[inner] {
					t.Errorf("inner %d: %v, %d; want %v", inner, w, err, want[inner])
				}
				inner++
				if inner == outer {
					break
				}
			}
		}
		if outer != len(want) {
			t.Errorf("%d handed on; want %d", outer, len(want))
		}
	}
}

// W1: long texts of each kind.
func TestScanOfLongTexts(t *testing.T) {
	const n = 1 << 17
	for _, x := range []struct {
		piece        string
		words, lines int
	}{
		{"ab ", n, 1}, {"7\n", n, n}, {"\"a\\n\"\t", n, 1}, {"a\r\n", n, n}, {"\n", 0, 0}, {"#", 0, 0}, {"# \"\n", 0, 0}, {" ", 0, 0}, {"a", 1, 1},
	} {
		words, lines := 0, 0
		for w, err := range quote.Scan(strings.Repeat(x.piece, n)) {
			if err != api.OK {
				t.Errorf("%+q: error %d at %d", x.piece, err, w.At)
			}
			if w.Kind == api.WordEnd {
				lines++
			} else {
				words++
			}
		}
		if words != x.words || lines != x.lines {
			t.Errorf("%+q: %d words, %d lines; want %d, %d", x.piece, words, lines, x.words, x.lines)
		}
	}
	wantWords(t, strings.Repeat("7", n), fault(api.ErrForm, 0, 1))
	wantWords(t, strings.Repeat("\"", n), fault(api.ErrQuote, 2, 1))
	wantWords(t, `"`+strings.Repeat("a", n), fault(api.ErrQuote, n+1, 1))
	wantWords(t, fmt.Sprintf("%*s", n, "\xff"), fault(api.ErrText, n-1, 1))
}
