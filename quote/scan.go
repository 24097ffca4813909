package quote

import (
	"iter"
	"strconv"
	"strings"

	"hearsay/api"
)

// Scan goes through the words of a text; an error is the last thing that it hands on.
func Scan(s string) iter.Seq2[api.Word, api.Errno] {
	return func(yield func(api.Word, api.Errno) bool) {
		var word api.Word
		var err api.Errno
		at, next, line, words := 0, 0, 1, 0

	between:
		switch {
		case at == len(s) || endsLine(s[at]):
			goto ended
		case isBlank(s[at]):
			at++
			goto between
		case s[at] == '#':
			goto remark
		case s[at] == '"':
			goto quoted
		}

		word, next, err = bareWord(s, at)
		goto found

	quoted:
		word, next, err = quotedWord(s, at)

	found:
		word.Line = line
		if !yield(word, err) || err != api.OK {
			return
		}
		at = next
		words++
		goto between

	remark:
		for at < len(s) && !endsLine(s[at]) {
			at++
		}

	ended:
		if words > 0 && !yield(api.Word{Kind: api.WordEnd, At: at, Line: line}, api.OK) {
			return
		}
		if at == len(s) {
			return
		}
		at = behindLine(s, at)
		line++
		words = 0
		goto between
	}
}

func isBlank(b byte) bool { return b == ' ' || b == '\t' }

func endsLine(b byte) bool { return b == '\n' || b == '\r' }

// endsWord tells whether a word ends ahead of a byte.
func endsWord(b byte) bool { return isBlank(b) || b == '#' || endsLine(b) }

// behindLine is the byte behind the line's end that begins at a byte.
func behindLine(s string, at int) int {
	if strings.HasPrefix(s[at:], "\r\n") {
		return at + 2
	}
	return at + 1
}

// quotedWord is the word that begins with the quote at a byte, and the byte behind it.
func quotedWord(s string, at int) (api.Word, int, api.Errno) {
	text, end, ok := read(s, at)
	if !ok || end < len(s) && !endsWord(s[end]) {
		return api.Word{At: end}, 0, api.ErrQuote
	}
	return api.Word{Kind: api.WordQuoted, Text: text, At: at}, end, api.OK
}

// bareWord is the word without quotes that begins at a byte, and the byte behind it.
func bareWord(s string, begin int) (api.Word, int, api.Errno) {
	end := len(s)
search:
	for i, r := range s[begin:] {
		at := begin + i
		switch {
		case endsWord(s[at]):
			end = at
			break search
		case r == '"':
			return api.Word{At: at}, 0, api.ErrQuote
		case raw(s, at, r):
			return api.Word{At: at}, 0, api.ErrText
		}
	}
	word := api.Word{Kind: api.WordPlain, Text: s[begin:end], At: begin}
	if !beginsNumber(word.Text) {
		return word, end, api.OK
	}
	n, ok := decimal(word.Text)
	if !ok {
		return api.Word{At: begin}, 0, api.ErrForm
	}
	return api.Word{Kind: api.WordNumber, Num: n, At: begin}, end, api.OK
}

// beginsNumber tells whether a word has to be a number.
func beginsNumber(word string) bool {
	digits := strings.TrimPrefix(word, "-")
	return digits != "" && digits[0] >= '0' && digits[0] <= '9'
}

// decimal is the number that a word is, if that is the one form of it.
func decimal(word string) (int, bool) {
	n, err := strconv.ParseInt(word, 10, 64)
	if err != nil || strconv.FormatInt(n, 10) != word {
		return 0, false
	}
	return int(n), true
}
