package script_test

import (
	"math"
	"slices"
	"strconv"
	"strings"
	"testing"

	"hearsay/api"
	"hearsay/quote"
	"hearsay/script"
)

// TestParseExamples: P22.1: the rows of the chapter's first examples.
func TestParseExamples(t *testing.T) {
	wantRead(t, "")
	wantRead(t, "# x")
	h := api.Step{Kind: api.StepInsert, Site: 1, Text: "hé"}
	wantRead(t, `insert 1 0 "h\u{e9}"`, h)
	wantPrinted(t, "insert 1 0 \"hé\"\n", h)
	wantRead(t, "tick 2 -1\ntick\ncopies", api.Step{Kind: api.StepTick, Draws: []int{2, -1}}, api.Step{Kind: api.StepTick}, api.Step{Kind: api.StepCopies})
	wantRead(t, `alter 4 0 "\x00\xff"`+"\njoin 2 1\n", api.Step{Kind: api.StepAlter, N: 4, Data: []byte{0, 255}}, api.Step{Kind: api.StepJoin, Site: 2, Peer: 1})
	wantOffends(t, "\nleave", 2, api.ErrStep)
	for _, text := range []string{"leave 1 2", "Leave 1", `"leave" 1`, `text "1"`} {
		wantOffends(t, text, 1, api.ErrStep)
	}
	wantOffends(t, "leave 01", 1, api.ErrForm)
	wantOffends(t, `insert 1 0 "`, 1, api.ErrQuote)
}

// good is a line of each row of the chapter's table, and the step that it says.
var good = []struct {
	line string
	step api.Step
}{
	{`insert 3 7 "a b#"`, api.Step{Kind: api.StepInsert, Site: 3, At: 7, Text: "a b#"}},
	{"delete 3 7 -2", api.Step{Kind: api.StepDelete, Site: 3, At: 7, N: -2}},
	{"join 3 7", api.Step{Kind: api.StepJoin, Site: 3, Peer: 7}},
	{"leave 3", api.Step{Kind: api.StepLeave, Site: 3}},
	{"stop 3", api.Step{Kind: api.StepStop, Site: 3}},
	{"text 3", api.Step{Kind: api.StepText, Site: 3}},
	{"sight 3", api.Step{Kind: api.StepSight, Site: 3}},
	{"tick", api.Step{Kind: api.StepTick}},
	{"tick 3", api.Step{Kind: api.StepTick, Draws: []int{3}}},
	{"tick 3 -7 0 0 12", api.Step{Kind: api.StepTick, Draws: []int{3, -7, 0, 0, 12}}},
	{"deliver 3", api.Step{Kind: api.StepDeliver, N: 3}},
	{"drop 3", api.Step{Kind: api.StepDrop, N: 3}},
	{"double 3", api.Step{Kind: api.StepDouble, N: 3}},
	{`alter 3 7 "a\xfe"`, api.Step{Kind: api.StepAlter, N: 3, At: 7, Data: []byte("a\xfe")}},
	{"cut 3 7", api.Step{Kind: api.StepCut, N: 3, At: 7}},
	{"copies", api.Step{Kind: api.StepCopies}},
}

// TestEachRow: P22.1: each row of the table, alone and all together, with and without an end of the last line.
func TestEachRow(t *testing.T) {
	whole := ""
	var all []api.Step
	for _, x := range good {
		wantRead(t, x.line, x.step)
		wantRead(t, x.line+"\n", x.step)
		wantRead(t, x.line+"\n"+x.line, x.step, x.step)
		whole += x.line + "\n"
		all = append(all, x.step)
	}
	wantRead(t, whole, all...)
	slices.Reverse(all)
	lines := strings.Split(strings.TrimSpace(whole), "\n")
	slices.Reverse(lines)
	wantRead(t, strings.Join(lines, "\n"), all...)
}

// TestWordsOfALine: P22.1: each first word with each row of up to five words of each kind behind it: too few, too many, a number where a text stands, a text where a number stands.
func TestWordsOfALine(t *testing.T) {
	allowed := map[string]string{
		"insert": "n n q", "delete": "n n n", "join": "n n", "leave": "n", "stop": "n", "text": "n", "sight": "n",
		"deliver": "n", "drop": "n", "double": "n", "alter": "n n q", "cut": "n n", "copies": "", "unknown": "none",
	}
	kinds := [][]string{nil}
	for at := 0; at < len(kinds); at++ {
		for _, kind := range []string{"n", "q", "p"} {
			if len(kinds[at]) < 5 {
				kinds = append(kinds, append(slices.Clone(kinds[at]), kind))
			}
		}
	}
	stands := map[string]string{"n": "1", "q": `"1"`, "p": "x"}
	taken := 0
	for _, list := range kinds {
		behind := ""
		for _, kind := range list {
			behind += " " + stands[kind]
		}
		for first, row := range allowed {
			if strings.Join(list, " ") == row {
				taken++
				both(t, first+behind)
				if steps, _, err := script.Parse(first + behind); len(steps) != 1 || err != api.OK {
					t.Errorf("%s%s: %+v, %d", first, behind, steps, int(err))
				}
			} else {
				wantOffends(t, first+behind, 1, api.ErrStep)
			}
		}
		if slices.Contains(list, "q") || slices.Contains(list, "p") {
			wantOffends(t, "tick"+behind, 1, api.ErrStep)
		} else {
			wantRead(t, "tick"+behind, api.Step{Kind: api.StepTick, Draws: slices.Repeat([]int{1}, len(list))})
		}
	}
	if taken != 13 {
		t.Errorf("%d rows were taken", taken)
	}
}

// TestWordsThatAreLikeOthers: P22.1: a plain word where a number or a text stands, whatever it looks like, and steps' words there too.
func TestWordsThatAreLikeOthers(t *testing.T) {
	for _, w := range []string{"x", "-", "+1", "--1", "one", "leave", "tick", "'a'", `\x41`, "١", "１"} {
		wantOffends(t, "leave "+w, 1, api.ErrStep)
		wantOffends(t, "tick 1 "+w, 1, api.ErrStep)
		wantOffends(t, "tick "+w+" 1", 1, api.ErrStep)
		wantOffends(t, "insert 1 0 "+w, 1, api.ErrStep)
		wantOffends(t, "alter 1 0 "+w, 1, api.ErrStep)
	}
}

// TestFirstWord: P22.1: the first word in quotes, with capitals, unknown, cut short or drawn out, a number.
func TestFirstWord(t *testing.T) {
	for _, x := range good {
		word, behind, _ := strings.Cut(x.line, " ")
		for _, w := range []string{
			quote.Quote(word), strings.ToUpper(word), strings.ToUpper(word[:1]) + word[1:], word[:len(word)-1], word[1:], word + "s", word + "1", "x" + word, "-" + word, word + ".",
			word + "\u200b", "\ufeff" + word, word + "\u00a0" + behind, "step", "x", "", strconv.Itoa(x.step.Kind), "-1", `""`, "é",
		} {
			wantOffends(t, w+" "+behind+" \"\"", 1, api.ErrStep)
			if w != "" {
				wantOffends(t, w+" "+behind, 1, api.ErrStep)
			}
		}
	}
}

// TestNumbers: P22.1: numbers at the ends of what an int can be and beside them, with noughts ahead and signs.
func TestNumbers(t *testing.T) {
	for _, n := range edges {
		w := strconv.Itoa(n)
		wantRead(t, "insert "+w+` -1 "a"`, api.Step{Kind: api.StepInsert, Site: n, At: -1, Text: "a"})
		wantRead(t, "insert -1 "+w+` "a"`, api.Step{Kind: api.StepInsert, Site: -1, At: n, Text: "a"})
		wantRead(t, "delete "+w+" 5 6", api.Step{Kind: api.StepDelete, Site: n, At: 5, N: 6})
		wantRead(t, "delete 4 "+w+" 6", api.Step{Kind: api.StepDelete, Site: 4, At: n, N: 6})
		wantRead(t, "delete 4 5 "+w, api.Step{Kind: api.StepDelete, Site: 4, At: 5, N: n})
		wantRead(t, "join "+w+" 5", api.Step{Kind: api.StepJoin, Site: n, Peer: 5})
		wantRead(t, "join 4 "+w, api.Step{Kind: api.StepJoin, Site: 4, Peer: n})
		wantRead(t, "sight "+w, api.Step{Kind: api.StepSight, Site: n})
		wantRead(t, "double "+w, api.Step{Kind: api.StepDouble, N: n})
		wantRead(t, "alter "+w+` 5 "a"`, api.Step{Kind: api.StepAlter, N: n, At: 5, Data: []byte("a")})
		wantRead(t, "cut 4 "+w, api.Step{Kind: api.StepCut, N: 4, At: n})
		wantRead(t, "tick 4 "+w+" "+w, api.Step{Kind: api.StepTick, Draws: []int{4, n, n}})
	}
	for _, w := range []string{
		"01", "00", "-0", "-01", "007", "1x", "1.0", "1e1", "0x1", "1_0", "9223372036854775808", "-9223372036854775809", "18446744073709551617", "99999999999999999999999",
	} {
		wantOffends(t, "leave "+w, 1, api.ErrForm)
		wantOffends(t, "tick 1 "+w+" x", 1, api.ErrForm)
		wantOffends(t, "nothing "+w, 1, api.ErrForm)
		wantOffends(t, w, 1, api.ErrForm)
	}
	for _, w := range []string{"+1", "+0", "--1", "-", "+", "- 1", "1 -"} {
		wantOffends(t, "leave "+w, 1, api.ErrStep)
	}
	wantRead(t, "leave 9223372036854775807\nleave -9223372036854775808", api.Step{Kind: api.StepLeave, Site: math.MaxInt}, api.Step{Kind: api.StepLeave, Site: math.MinInt})
}

// TestTexts: P22.1: texts of any bytes in quotes, of each byte, of bytes that are no rune, of none.
func TestTexts(t *testing.T) {
	texts := []string{"", "a", "hé𝄞", " ", "#", "\"", "\\", "\n", "\r\n", "insert 1 0 \"x\"\n", "\xc3", "\xed\xa0\x80", "\xf4\x90\x80\x80", "\ufffd", "\u200b", "\u2028", strings.Repeat("\xffab\n", 500)}
	for b := range 256 {
		texts = append(texts, string([]byte{byte(b)}), "é"+string([]byte{byte(b), byte(b)})+"é")
	}
	for _, text := range texts {
		insert := api.Step{Kind: api.StepInsert, Site: 1, At: 2, Text: text}
		alter := api.Step{Kind: api.StepAlter, N: 1, At: 2, Data: []byte(text)}
		wantRead(t, "insert 1 2 "+quote.Quote(text)+"\nalter 1 2 "+quote.Quote(text)+"#", insert, alter)
		wantPrinted(t, "insert 1 2 "+quote.Quote(text)+"\nalter 1 2 "+quote.Quote(text)+"\n", insert, alter)
	}
	// Every way to say it is as good.
	wantRead(t, `insert 1 2 "\x68\u{e9}\x0a\""`, api.Step{Kind: api.StepInsert, Site: 1, At: 2, Text: "hé\n\""})
	wantRead(t, `alter 1 2 "\xc3\xa9é\u{e9}"`, api.Step{Kind: api.StepAlter, N: 1, At: 2, Data: []byte("ééé")})
	for _, raw := range []string{"\xff", "\xc3", "\x00", "\x7f", "\t", "\\q", `\u{d800}`, `"`, "\n", "\r"} {
		wantOffends(t, `insert 1 2 "a`+raw+`b"`, 1, api.ErrQuote)
		wantOffends(t, `alter 1 2 "a`+raw+`b"`, 1, api.ErrQuote)
		wantOffends(t, `nothing "a`+raw+`b"`, 1, api.ErrQuote)
	}
	wantOffends(t, `insert 1 0 "a""b"`, 1, api.ErrQuote)
	wantOffends(t, `insert 1 0"a"`, 1, api.ErrQuote)
}

// TestNothing: P22.1: no text, blanks, remarks and empty lines say no step.
func TestNothing(t *testing.T) {
	for _, text := range []string{
		"", " ", "\t", " \t ", "\n", "\r", "\r\n", "\n\r", "\n\n\n", "#", "# leave", "#leave 1", "#\"", "#\xff\x00", "# leave\n# 01\n", " \n\t\r\n#\r #", "##", "#\n", strings.Repeat("\n", 1000),
	} {
		wantRead(t, text)
		wantRead(t, text+"\nstop 5", api.Step{Kind: api.StepStop, Site: 5})
		wantRead(t, "stop 5\n"+text, api.Step{Kind: api.StepStop, Site: 5})
	}
}

// TestLineThatOffends: P22.1: the first line that offends, its number behind lines of all sorts with ends of each kind.
func TestLineThatOffends(t *testing.T) {
	faults := []struct {
		line string
		err  api.Errno
	}{
		{"leave", api.ErrStep}, {"Leave 1", api.ErrStep}, {`""`, api.ErrStep}, {"7", api.ErrStep}, {"leave 01", api.ErrForm}, {`leave "`, api.ErrQuote}, {"leave \xff", api.ErrText},
	}
	ahead := [][]string{{}, {""}, {"", "", ""}, {"# leave"}, {"#\xff\""}, {" \t"}, {"copies"}, {"tick", "", "# x", " copies # y", ""}, {`insert 1 0 "\n\r\n"`}, {"copies", "copies"}}
	for _, end := range []string{"\n", "\r", "\r\n"} {
		for _, lines := range ahead {
			text := ""
			for _, l := range lines {
				text += l + end
			}
			for _, x := range faults {
				for _, behind := range []string{"", end, " # x", end + "copies", end + "leave 1 2", end + `"`, end + "07" + end + end} {
					wantOffends(t, text+x.line+behind, len(lines)+1, x.err)
				}
			}
		}
	}
	wantOffends(t, "\n\r\n\r\r\n\n\rleave", 7, api.ErrStep)
	wantOffends(t, "#\r\r\n\n\r\r07", 6, api.ErrForm)
	wantOffends(t, strings.Repeat("copies\n", 5000)+"copy", 5001, api.ErrStep)
}

// TestFirstFault: P22.1: a scan's error and a step that is none, in one line and in two, in each order.
func TestFirstFault(t *testing.T) {
	for scan, err := range map[string]api.Errno{"01": api.ErrForm, "-0": api.ErrForm, `"`: api.ErrQuote, `a"b`: api.ErrQuote, `"\q"`: api.ErrQuote, "\xff": api.ErrText, "a\x01": api.ErrText} {
		for _, none := range []string{"nothing", "Leave 1", "leave 1 2", "leave", `"leave" 1`, "5", `""`, "copies copies"} {
			wantOffends(t, none+" "+scan, 1, err)
			wantOffends(t, none+" "+scan+" 1 2 3", 1, err)
			wantOffends(t, scan+" "+none, 1, err)
			wantOffends(t, none+"\n"+scan, 1, api.ErrStep)
			wantOffends(t, none+"\n"+none+" "+scan, 1, api.ErrStep)
			wantOffends(t, scan+"\n"+none, 1, err)
			wantOffends(t, "copies\n"+none+"\r\n"+scan, 2, api.ErrStep)
			wantOffends(t, "copies\n"+scan+"\r\n"+none, 2, err)
			// What a remark says is no fault.
			wantOffends(t, none+" # "+scan+"\n"+scan, 1, api.ErrStep)
			wantOffends(t, "copies # "+none+" "+scan+"\n"+scan, 2, err)
		}
		wantOffends(t, "leave 1 "+scan, 1, err)
		wantOffends(t, "leave "+scan+" 1", 1, err)
		wantOffends(t, "tick 1 2 3 "+scan, 1, err)
	}
	// Of two errors of a scan the first one from the left.
	wantOffends(t, `leave 01 "`, 1, api.ErrForm)
	wantOffends(t, `leave " 01`, 1, api.ErrQuote)
	wantOffends(t, "leave \xff 01", 1, api.ErrText)
}

// TestManySteps: P22.1, W1: scripts of very many lines, and lines of very many words, in a time that grows as they do.
func TestManySteps(t *testing.T) {
	const n = 1 << 18
	steps, line, err := script.Parse(strings.Repeat("leave 7\n", n))
	if len(steps) != n || line != 0 || err != api.OK || steps[n-1].Site != 7 {
		t.Errorf("%d steps, %d, %d", len(steps), line, int(err))
	}
	if text, err := script.Print(steps); text != strings.Repeat("leave 7\n", n) || err != api.OK {
		t.Errorf("%d bytes, %d", len(text), int(err))
	}
	steps, _, err = script.Parse("tick" + strings.Repeat(" -7", n))
	if len(steps) != 1 || err != api.OK || !slices.Equal(steps[0].Draws, slices.Repeat([]int{-7}, n)) {
		t.Errorf("%d steps, %d", len(steps), int(err))
	}
	if text, err := script.Print(steps); text != "tick"+strings.Repeat(" -7", n)+"\n" || err != api.OK {
		t.Errorf("%d bytes, %d", len(text), int(err))
	}
	long := strings.Repeat("é\xff", n)
	steps, _, err = script.Parse("insert 1 0 " + quote.Quote(long) + "\nalter 1 0 " + quote.Quote(long))
	if len(steps) != 2 || err != api.OK || steps[0].Text != long || string(steps[1].Data) != long {
		t.Errorf("%d steps, %d", len(steps), int(err))
	}
	for _, piece := range []string{"leave ", "a", "7 ", "\"", "\"\" ", "#", "\n", "\r", "-", "\xff", "copies\n\n", "tick 1\r"} {
		_, _, err = script.Parse(strings.Repeat(piece, n))
		if want := wantOf(piece); err != want {
			t.Errorf("%+q many times: %d; want %d", piece, int(err), int(want))
		}
	}
}

// wantOf is the error of a script of one piece very often.
func wantOf(piece string) api.Errno {
	switch piece {
	case "#", "\n", "\r", "copies\n\n", "tick 1\r":
		return api.OK
	case "\"":
		return api.ErrQuote
	case "\xff":
		return api.ErrText
	}
	return api.ErrStep
}
