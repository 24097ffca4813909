package quote_test

import (
	"fmt"
	"math/rand"
	"strings"
	"testing"
	"unicode/utf8"

	"hearsay/api"
	"hearsay/quote"
)

func wantQuoted(t *testing.T, s, want string) {
	t.Helper()
	if got := quote.Quote(s); got != want {
		t.Errorf("Quote(%+q): %s; want %s", s, got, want)
	}
}

func wantSaid(t *testing.T, s, want string) {
	t.Helper()
	if got, at, err := quote.Unquote(s); got != want || at != 0 || err != api.OK {
		t.Errorf("Unquote(%+q): %+q, %d, %d; want %+q, 0, 0", s, got, at, err, want)
	}
}

func wantOffends(t *testing.T, s string, want int) {
	t.Helper()
	if got, at, err := quote.Unquote(s); got != "" || at != want || err != api.ErrQuote {
		t.Errorf("Unquote(%+q): %+q, %d, %d; want nothing, %d, %d", s, got, at, err, want, api.ErrQuote)
	}
}

// hidden is the chapter's row of runes that are written by their digits.
var hidden = []struct{ low, high rune }{
	{0x80, 0x9f}, {0xad, 0xad}, {0x200b, 0x200f}, {0x2028, 0x202f}, {0x2060, 0x206f},
	{0xe000, 0xf8ff}, {0xfe00, 0xfe0f}, {0xfeff, 0xfeff}, {0xe0000, 0x10ffff},
}

// formOf is what stands for a rune in quotes.
func formOf(r rune) string {
	switch r {
	case '"':
		return `\"`
	case '\\':
		return `\\`
	case 0xa:
		return `\n`
	case 0xd:
		return `\r`
	case 0x9:
		return `\t`
	}
	if r < 0x20 || r == 0x7f {
		return fmt.Sprintf(`\x%02x`, r)
	}
	for _, x := range hidden {
		if x.low <= r && r <= x.high {
			return fmt.Sprintf(`\u{%x}`, r)
		}
	}
	return string(r)
}

// P4.1
func TestQuoteOfEveryByte(t *testing.T) {
	for n := range 256 {
		want := fmt.Sprintf(`\x%02x`, n)
		if n < 0x80 {
			want = formOf(rune(n))
		}
		b := string([]byte{byte(n)})
		wantQuoted(t, b, `"`+want+`"`)
		wantQuoted(t, "a"+b+"b", `"a`+want+`b"`)
		wantQuoted(t, b+b, `"`+want+want+`"`)
	}
}

// P4.1, and P4.4 of a text of one rune
func TestQuoteOfEveryRune(t *testing.T) {
	for r := rune(0); r <= utf8.MaxRune; r++ {
		if utf8.ValidRune(r) {
			want := `"` + formOf(r) + `"`
			wantQuoted(t, string(r), want)
			wantSaid(t, want, string(r))
		}
	}
}

// P4.1: the runes at and beside each edge of the table, written out.
func TestQuoteAtTheEdges(t *testing.T) {
	for s, want := range map[string]string{
		"\x1f !#[]~\x7f":                           `"\x1f !#[]~\x7f"`,
		"\u0080\u009f\u00a0":                       `"\u{80}\u{9f}` + "\u00a0\"",
		"\u00ac\u00ad\u00ae":                       "\"\u00ac" + `\u{ad}` + "\u00ae\"",
		"\u200a\u200b\u200f\u2010":                 "\"\u200a" + `\u{200b}\u{200f}` + "\u2010\"",
		"\u2027\u2028\u2029\u202f\u2030":           "\"\u2027" + `\u{2028}\u{2029}\u{202f}` + "\u2030\"",
		"\u205f\u2060\u206f\u2070":                 "\"\u205f" + `\u{2060}\u{206f}` + "\u2070\"",
		"\ud7ff\ue000\uf8ff\uf900":                 "\"\ud7ff" + `\u{e000}\u{f8ff}` + "\uf900\"",
		"\ufdff\ufe00\ufe0f\ufe10":                 "\"\ufdff" + `\u{fe00}\u{fe0f}` + "\ufe10\"",
		"\ufefe\ufeff\uff00":                       "\"\ufefe" + `\u{feff}` + "\uff00\"",
		"\ufffd\uffff\U00010000":                   "\"\ufffd\uffff\U00010000\"",
		"\U000dffff\U000e0000\U000e0fff":           "\"\U000dffff" + `\u{e0000}\u{e0fff}"`,
		"\U000effff\U000f0000\U00100000\U0010ffff": `"\u{effff}\u{f0000}\u{100000}\u{10ffff}"`,
	} {
		wantQuoted(t, s, want)
		wantSaid(t, want, s)
	}
}

// P4.1: bytes that begin no rune, and api.Bad written out.
func TestQuoteOfBadBytes(t *testing.T) {
	for s, want := range map[string]string{
		"\xe2\x82":             `"\xe2\x82"`,
		"\xed\xa0\x80":         `"\xed\xa0\x80"`,
		"\xc0\x80":             `"\xc0\x80"`,
		"\xf4\x90\x80\x80":     `"\xf4\x90\x80\x80"`,
		"\xf0\x9f\x98":         `"\xf0\x9f\x98"`,
		"\xc3\xc3\xa9\xa9":     `"\xc3é\xa9"`,
		"\xef\xbf\xbd\xef\xbf": "\"\ufffd" + `\xef\xbf"`,
		"\xef\xbf\ufffd\xbd":   `"\xef\xbf` + "\ufffd" + `\xbd"`,
		"\xff\"\xfe\n":         `"\xff\"\xfe\n"`,
		"\xffa\xff0":           `"\xffa\xff0"`,
	} {
		wantQuoted(t, s, want)
		wantSaid(t, want, s)
	}
}

// P4.2
func TestUnquoteOfGoodEscapes(t *testing.T) {
	for s, want := range map[string]string{
		`""`: "", `"\""`: `"`, `"\\"`: `\`, `"\n\r\t"`: "\n\r\t", `"\\n"`: `\n`, `"\\\""`: `\"`,
		`"\x0a\x22\x5c"`: "\n\"\\", `"\xc3\xa9"`: "é", `"\x411"`: "A1",
		`"\u{0}\u{a}\u{22}\u{5c}"`: "\x00\n\"\\", `"\u{41}1}"`: "A1}", `"\u{10ffff}"`: "\U0010ffff",
		`"\u{d7ff}\u{e000}\u{fffd}"`: "\ud7ff\ue000\ufffd", `"nrtxu{}'#"`: "nrtxu{}'#",
		"\"\ufffd\u0085\u2028\ufeff\U0010ffff\"": "\ufffd\u0085\u2028\ufeff\U0010ffff",
	} {
		wantSaid(t, s, want)
	}
	for n := range 256 {
		wantSaid(t, fmt.Sprintf(`"\x%02x"`, n), string([]byte{byte(n)}))
	}
	for r := rune(0); r <= 0xffffff; r += 1 + r>>12 {
		if s := fmt.Sprintf(`"a\u{%x}"`, r); utf8.ValidRune(r) {
			wantSaid(t, s, "a"+string(r))
		} else {
			wantOffends(t, s, 2)
		}
	}
}

// P4.2
func TestUnquoteOfBrokenEscapes(t *testing.T) {
	for _, e := range []string{
		`\x`, `\x4`, `\xg1`, `\x1g`, `\xFF`, `\xaF`, `\x-1`, `\x 1`, `\x{41}`, `\X41`,
		`\u`, `\u{`, `\u}`, `\u{}`, `\u0041`, `\u41}`, `\u{41`, `\u{ 41}`, `\u{-1}`, `\u{+1}`, `\u{1_0}`, `\u{g}`, `\u{4g}`,
		`\u{00}`, `\u{01}`, `\u{041}`, `\u{000041}`, `\u{0000041}`, `\u{1234567}`, `\u{1000000}`, `\u{100000000}`, `\u{10000000000000041}`,
		`\u{1F}`, `\u{F}`, `\U{41}`, `\U0001f600`,
		`\u{d800}`, `\u{dbff}`, `\u{dc00}`, `\u{dfff}`, `\u{110000}`, `\u{ffffff}`,
		`\xé0`, `\u{é}`, `\u{4é}`, "\\x\xff0", "\\x4\xff", "\\u{\xff}", "\\x\n1", "\\u{4\n}", `\a`, `\N`, `\0`, `\'`, `\ `, `\`,
	} {
		wantOffends(t, `"`+e+` "`, 1)
		wantOffends(t, `"ab`+e+` c"`, 3)
		wantOffends(t, `"é`+e+` "`, 3)
		wantOffends(t, `"\n\x41`+e+` "`, 7)
	}
	for n := range 256 {
		b := string([]byte{byte(n)})
		if !strings.Contains(`"\nrt`, b) {
			wantOffends(t, `"\`+b+`"`, 1)
			wantOffends(t, `"é\`+b+`"`, 3)
		}
		if !strings.Contains("0123456789abcdef", b) {
			wantOffends(t, `"\x`+b+`0"`, 1)
			wantOffends(t, `"\x0`+b+`"`, 1)
			wantOffends(t, `"\u{`+b+`0}"`, 1)
		}
		if !strings.Contains("0123456789abcdef}", b) {
			wantOffends(t, `"\u{1`+b+`}"`, 1)
			wantOffends(t, `"\u{10ff`+b+`}"`, 1)
		}
		if b != "}" {
			wantOffends(t, `"\u{10ffff`+b+`}"`, 1)
		}
	}
}

// P4.2: at each byte a text may be cut off, the piece that is cut offends, or the end of the text.
func TestUnquoteOfCutTexts(t *testing.T) {
	pieces := []string{`"`, "a", "é", `\"`, "€", `\\`, `\x41`, "𝄞", `\u{0}`, `\n`, `\u{1f600}`, "\ufffd", `\t`, `\r`, `\u{10ffff}`, "\u0301"}
	whole := strings.Join(pieces, "")
	wantSaid(t, whole+`"`, "aé\"€\\A𝄞\x00\n\U0001f600\ufffd\t\r\U0010ffff\u0301")
	at := 0
	for _, p := range pieces {
		wantOffends(t, whole[:at], at)
		for in := 1; in < len(p); in++ {
			wantOffends(t, whole[:at+in], at)
		}
		at += len(p)
	}
	wantOffends(t, whole, at)
}

// P4.2: what stands behind the end, and what does not begin with a quote.
func TestUnquoteOfOtherTexts(t *testing.T) {
	wantOffends(t, "", 0)
	for n := range 256 {
		b := string([]byte{byte(n)})
		wantOffends(t, `""`+b, 2)
		wantOffends(t, `"a\n"`+b, 5)
		wantOffends(t, `"é"`+b+`"`, 4)
		if b != `"` {
			wantOffends(t, b, 0)
			wantOffends(t, b+`"a"`, 0)
			wantOffends(t, b+`\q`, 0)
		}
	}
}

// P4.2: each byte as it stands.
func TestUnquoteOfEveryByte(t *testing.T) {
	for n := range 256 {
		b := string([]byte{byte(n)})
		switch {
		case n < 0x20 || n >= 0x7f:
			wantOffends(t, `"`+b+`"`, 1)
			wantOffends(t, `"é\n`+b+`"`, 5)
			wantOffends(t, `"a`+b, 2)
		case b != `"` && b != `\`:
			wantSaid(t, `"a`+b+`é"`, "a"+b+"é")
		}
	}
	for _, b := range []string{"\xed\xa0\x80", "\xc0\x80", "\xf4\x90\x80\x80", "\xe2\x82", "\xef\xbf", "\xf0\x9f\x98"} {
		wantOffends(t, "\"\ufffd"+b+`"`, 4)
	}
}

// P4.2: of two things that offend the first one is told.
func TestUnquoteTellsTheFirstByte(t *testing.T) {
	offences := []string{`\q`, `\x4`, `\u{}`, `\u{d800}`, "\n", "\x7f", "\xff", "\x00", `"b`}
	for _, a := range offences {
		for _, b := range offences {
			for _, between := range []string{" ", "é", "zzz", `\n`} {
				want := 2
				if strings.HasPrefix(a, `"`) {
					want = 3
				}
				wantOffends(t, `"a`+a+between+b+`"`, want)
				wantOffends(t, `"a`+a+between+b, want)
			}
		}
	}
}

// P4.2: all short texts of the bytes that escapes are made of.
func TestUnquoteOfAllShortTexts(t *testing.T) {
	pieces := []string{`"`, `\`, "x", "u", "{", "}", "0", "4", "d", "A", "n", "\n", "\xc3", "\xa9"}
	for inside := range every(pieces, 4) {
		for _, s := range []string{inside, `"` + inside + `"`, `"\u{` + inside + `}"`, `"\` + inside} {
			text, at, err := quote.Unquote(s)
			if wantText, wantAt, wantErr := wantUnquote(s); text != wantText || at != wantAt || err != wantErr {
				t.Fatalf("Unquote(%+q): %+q, %d, %d; want %+q, %d, %d", s, text, at, err, wantText, wantAt, wantErr)
			}
		}
	}
}

// wantBack holds Quote of a text against all that P4.4 says of one text.
func wantBack(t *testing.T, s string) {
	t.Helper()
	q := quote.Quote(s)
	wantSaid(t, q, s)
	if !utf8.ValidString(q) || strings.ContainsAny(q, "\n\r\v\f\u0085\u2028\u2029") {
		t.Errorf("Quote(%+q): %+q is no good text of one line", s, q)
	}
}

// P4.4
func TestQuotedTextsLeadBack(t *testing.T) {
	pieces := []string{"a", "x", "0", "f", `"`, `\`, "n", "\n", "\x00", "\x7f", "\xc3", "\xa9", "\ufffd", "\u200b", "\xff"}
	of := map[string]string{}
	for s := range every(pieces, 4) {
		q := quote.Quote(s)
		if other, ok := of[q]; ok && other != s {
			t.Fatalf("Quote(%+q) and Quote(%+q) are both %s", s, other, q)
		}
		of[q] = s
		wantBack(t, s)
	}
	dice := rand.New(rand.NewSource(4))
	for range 20000 {
		b := make([]byte, dice.Intn(24))
		dice.Read(b)
		wantBack(t, string(b))
	}
}

// W1: long texts, good and bad.
func TestQuoteOfLongTexts(t *testing.T) {
	for _, p := range []string{"a", `"`, `\`, "\xff", "\xef\xbf", "\n", "é", "\u200b", "\x00"} {
		s := strings.Repeat(p, 1<<18)
		wantBack(t, s)
		half := len(quote.Quote(s[:len(s)/2])) - len(`"`)
		wantOffends(t, quote.Quote(s)[:half], half)
	}
	wantOffends(t, `"\u{`+strings.Repeat("1", 1<<20)+`}"`, 1)
	wantOffends(t, `"\u{`+strings.Repeat("0", 1<<20)+`}"`, 1)
	wantOffends(t, strings.Repeat(`"`, 1<<20), 2)
	wantOffends(t, strings.Repeat(`\`, 1<<20), 0)
}

// P4.1, P4.2: the chapter's examples.
func TestQuoteExamples(t *testing.T) {
	for s, want := range map[string]string{
		"": `""`, `a"b`: `"a\"b"`, "\x61\x0a\xff\xc3\xa9": `"a\n\xffé"`, "\xe2\x80\x8b": `"\u{200b}"`, "\xef\xbf\xbd": "\"\xef\xbf\xbd\"",
	} {
		wantQuoted(t, s, want)
	}
	wantSaid(t, `"\x41\u{1f600}"`, "A\U0001f600")
	for s, want := range map[string]int{"": 0, `"a`: 2, `"a"b`: 3, `"\q"`: 1, `"\u{d800}"`: 1, `"\u{041}"`: 1} {
		wantOffends(t, s, want)
	}
}
