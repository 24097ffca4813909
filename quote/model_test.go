package quote_test

import (
	"iter"
	"math/big"
	"regexp"
	"strconv"
	"strings"
	"unicode/utf8"

	"hearsay/api"
)

// What the chapter says, worked out once more by other means: patterns for each thing, and whole numbers without an end.
var (
	lineEnds  = regexp.MustCompile(`\r\n|\r|\n`)
	bytePiece = regexp.MustCompile(`^\\x([0-9a-f][0-9a-f])`)
	runePiece = regexp.MustCompile(`^\\u\{(0|[1-9a-f][0-9a-f]{0,5})\}`)
	toNumber  = regexp.MustCompile(`^-?[0-9]`)
	isNumber  = regexp.MustCompile(`^(?:0|-?[1-9][0-9]*)$`)
)

// item is what a scan hands on at one time.
type item struct {
	word api.Word
	err  api.Errno
}

// wantPiece is what the piece says with which a quoted text's inside begins, and its length; 0, if it offends.
func wantPiece(s string) (string, int) {
	for _, x := range []struct{ form, says string }{{`\"`, `"`}, {`\\`, `\`}, {`\n`, "\n"}, {`\r`, "\r"}, {`\t`, "\t"}} {
		if strings.HasPrefix(s, x.form) {
			return x.says, 2
		}
	}
	if m := bytePiece.FindStringSubmatch(s); m != nil {
		n, _ := strconv.ParseUint(m[1], 16, 8)
		return string([]byte{byte(n)}), len(m[0])
	}
	if m := runePiece.FindStringSubmatch(s); m != nil {
		n, _ := strconv.ParseUint(m[1], 16, 32)
		if !utf8.ValidRune(rune(n)) {
			return "", 0
		}
		return string(rune(n)), len(m[0])
	}
	r, width := utf8.DecodeRuneInString(s)
	if r == utf8.RuneError && width == 1 || r == '\\' || r < ' ' || r == 0x7f {
		return "", 0
	}
	return s[:width], width
}

// wantRead is what a quoted text says at the beginning of s, and its end; with false, the byte that offends.
func wantRead(s string) (string, int, bool) {
	if !strings.HasPrefix(s, `"`) {
		return "", 0, false
	}
	said := ""
	for at := 1; at < len(s); {
		if s[at] == '"' {
			return said, at + 1, true
		}
		says, width := wantPiece(s[at:])
		if width == 0 {
			return "", at, false
		}
		said += says
		at += width
	}
	return "", len(s), false
}

// wantUnquote is what Unquote has to answer.
func wantUnquote(s string) (string, int, api.Errno) {
	text, end, ok := wantRead(s)
	if !ok || end != len(s) {
		return "", end, api.ErrQuote
	}
	return text, 0, api.OK
}

// wantScan is what Scan has to hand on: each line is scanned by itself, without its end.
func wantScan(s string) []item {
	var all []item
	line, begin := 1, 0
	for _, e := range append(lineEnds.FindAllStringIndex(s, -1), []int{len(s), len(s)}) {
		l := wantLine(s[begin:e[0]])
		for i := range l {
			l[i].word.At += begin
			l[i].word.Line = line
		}
		all = append(all, l...)
		if len(l) > 0 && l[len(l)-1].err != api.OK {
			return all
		}
		line, begin = line+1, e[1]
	}
	return all
}

// wantLine is wantScan of one line, with At from the line's beginning on.
func wantLine(s string) []item {
	var l []item
	for at := 0; at < len(s) && s[at] != '#'; {
		if s[at] == ' ' || s[at] == '\t' {
			at++
			continue
		}
		w, width, err := wantWord(s[at:])
		w.At += at
		l = append(l, item{w, err})
		if err != api.OK {
			return l
		}
		at += width
	}
	if l != nil {
		l = append(l, item{api.Word{Kind: api.WordEnd, At: len(s)}, api.OK})
	}
	return l
}

// wantWord is the word with which a line's rest begins, and its length.
func wantWord(s string) (api.Word, int, api.Errno) {
	if s[0] == '"' {
		text, end, ok := wantRead(s)
		if !ok || end < len(s) && !strings.ContainsRune(" \t#", rune(s[end])) {
			return api.Word{At: end}, 0, api.ErrQuote
		}
		return api.Word{Kind: api.WordQuoted, Text: text}, end, api.OK
	}
	if i := strings.IndexAny(s, " \t#"); i >= 0 {
		s = s[:i]
	}
	for at := 0; at < len(s); {
		r, width := utf8.DecodeRuneInString(s[at:])
		switch {
		case r == '"':
			return api.Word{At: at}, 0, api.ErrQuote
		case r < ' ' || r == 0x7f || r == utf8.RuneError && width == 1:
			return api.Word{At: at}, 0, api.ErrText
		}
		at += width
	}
	if !toNumber.MatchString(s) {
		return api.Word{Kind: api.WordPlain, Text: s}, len(s), api.OK
	}
	n, ok := new(big.Int).SetString(s, 10)
	if !ok || !isNumber.MatchString(s) || !n.IsInt64() {
		return api.Word{}, 0, api.ErrForm
	}
	return api.Word{Kind: api.WordNumber, Num: int(n.Int64())}, len(s), api.OK
}

// every goes through all texts of at most n pieces.
func every(pieces []string, n int) iter.Seq[string] {
	var lay func(string, int, func(string) bool) bool
	lay = func(s string, left int, yield func(string) bool) bool {
		if !yield(s) {
			return false
		}
		for _, p := range pieces {
			if left > 0 && !lay(s+p, left-1, yield) {
				return false
			}
		}
		return true
	}
	return func(yield func(string) bool) { lay("", n, yield) }
}
