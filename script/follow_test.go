package script_test

import (
	"slices"
	"strings"
	"testing"

	"hearsay/api"
	"hearsay/quote"
	"hearsay/script"
)

// whole is a script of all rows of the table, as Print lays it, and its steps.
func whole() (string, []api.Step) {
	text := ""
	var steps []api.Step
	for _, x := range good {
		text += x.line + "\n"
		steps = append(steps, x.step)
	}
	return text, steps
}

// TestThereAndBack: P22.4: Parse of what Print lays, Print of what Parse reads.
func TestThereAndBack(t *testing.T) {
	text, steps := whole()
	wantPrinted(t, text, steps...)
	wantRead(t, text, steps...)
	var filled []api.Step
	for _, s := range steps {
		f := full(s.Kind)
		filled = append(filled, f)
		f = bare(f)
		printed, err := script.Print([]api.Step{full(s.Kind)})
		if err != api.OK {
			t.Errorf("kind %d: %d", s.Kind, int(err))
		}
		wantRead(t, printed, f)
	}
	printed, _ := bothPrint(t, filled)
	for i := range filled {
		filled[i] = bare(filled[i])
	}
	wantRead(t, printed, filled...)
	// What Print would lay in another way is read as the same.
	wild := " insert\t3  7 \"\\x61 b\\u{23}\" # x\r\n\r#\ndelete 3 7 -2#\rtick"
	got, err := both(t, wild)
	again, _ := bothPrint(t, got)
	if want := "insert 3 7 \"a b#\"\ndelete 3 7 -2\ntick\n"; again != want || err != api.OK {
		t.Errorf("%+q: %+q; want %+q", wild, again, want)
	}
	wantRead(t, again, got...)
}

// gaps is the places of a line between its words, ahead of them and behind them.
func gaps(line string) []int {
	var l []int
	for w := range quote.Scan(line) {
		l = append(l, w.At)
	}
	return l
}

// TestSpare: P22.5: blanks more, remarks, empty lines and other line's ends, put in everywhere, change nothing but the numbers of lines.
func TestSpare(t *testing.T) {
	text, steps := whole()
	lines := strings.Split(strings.TrimSuffix(text, "\n"), "\n")
	join := func(lines []string, end string) string { return strings.Join(lines, end) + end }
	turn := func(i int, by ...string) []string { return slices.Concat(lines[:i], by, lines[i+1:]) }
	// want holds a script against the steps, and the number of a line that offends behind it.
	want := func(text string) {
		t.Helper()
		wantRead(t, text, steps...)
		wantOffends(t, text+"nothing", 1+len(lineEnds.FindAllString(text, -1)), api.ErrStep)
	}
	for _, end := range []string{"\n", "\r", "\r\n"} {
		want(join(lines, end))
		wantRead(t, strings.Join(lines, end), steps...)
		for i, line := range lines {
			for _, blanks := range []string{" ", "\t", "  ", " \t \t "} {
				for _, at := range gaps(line) {
					want(join(turn(i, line[:at]+blanks+line[at:]), end))
				}
			}
			for _, remark := range []string{"#", " #", "# x", " # leave", "#\"", "\t# 01 \xff\x00", "##"} {
				want(join(turn(i, line+remark), end))
				want(join(turn(i, remark, line), end))
				want(join(turn(i, line, remark), end))
			}
			for _, empty := range []string{"", " ", "\t", " \t "} {
				want(join(turn(i, empty, line), end))
				want(join(turn(i, line, empty, empty), end))
			}
		}
	}
	// Each line with an end of its own.
	for i, line := range lines {
		ahead, behind := "", ""
		if i > 0 {
			ahead = join(lines[:i], "\n")
		}
		if i+1 < len(lines) {
			behind = join(lines[i+1:], "\n")
		}
		for _, end := range []string{"\r", "\r\n", "\n\n", "\r\r\n", "\n\r"} {
			want(ahead + line + end + behind)
		}
	}
	// All of it at once.
	text = "# a script\r\n\r\n"
	for i, line := range lines {
		for _, at := range slices.Backward(gaps(line)) {
			line = line[:at] + []string{" ", "\t", " \t"}[(i+at)%3] + line[at:]
		}
		text += line + "# \"\n" + []string{"\r", "\r\n", "\n", "  \n#\r"}[i%4]
	}
	want(text)
}
