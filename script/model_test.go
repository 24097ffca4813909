package script_test

import (
	"fmt"
	"reflect"
	"regexp"
	"strconv"
	"strings"

	"hearsay/api"
	"hearsay/quote"
)

// What the chapter says, worked out a second time by other means: its table as it stands there, a pattern for each of its rows, and the forms in which lists are told by fmt.

// rows is the chapter's table, by kinds: a step's word, and its fields by their names.
var rows = []string{
	api.StepInsert: "insert Site At Text", api.StepDelete: "delete Site At N", api.StepJoin: "join Site Peer",
	api.StepLeave: "leave Site", api.StepStop: "stop Site", api.StepText: "text Site", api.StepSight: "sight Site",
	api.StepTick: "tick Draws", api.StepDeliver: "deliver N", api.StepDrop: "drop N", api.StepDouble: "double N",
	api.StepAlter: "alter N At Data", api.StepCut: "cut N At", api.StepCopies: "copies",
}

// There are fourteen kinds, from 1 on.
const lastKind = 14

var (
	lineEnds = regexp.MustCompile(`\r\n|\r|\n`)
	noWords  = regexp.MustCompile(`^[ \t]*(?:#.*)?$`)
	patterns = makePatterns()
	brackets = regexp.MustCompile(`[][{}]`)
)

// makePatterns is the lines that each row of the table allows, with a group for each field.
func makePatterns() []*regexp.Regexp {
	const (
		number = `[ \t]+(-?[0-9]+)`
		text   = `[ \t]+("(?:[^"\\]|\\.)*")`
		many   = `((?:[ \t]+-?[0-9]+)*)`
	)
	forms := map[string]string{"Text": text, "Data": text, "Draws": many}
	all := []*regexp.Regexp{nil}
	for _, r := range rows[1:] {
		words := strings.Fields(r)
		pattern := words[0]
		for _, name := range words[1:] {
			if form, ok := forms[name]; ok {
				pattern += form
			} else {
				pattern += number
			}
		}
		all = append(all, regexp.MustCompile(`^[ \t]*`+pattern+`[ \t]*(?:#.*)?$`))
	}
	return all
}

// fields is the names of what a kind has.
func fields(kind int) []string { return strings.Fields(rows[kind])[1:] }

// wantParse is what Parse has to answer: each line by itself.
func wantParse(text string) ([]api.Step, int, api.Errno) {
	var steps []api.Step
	for i, l := range lineEnds.Split(text, -1) {
		for _, err := range quote.Scan(l) {
			if err != api.OK {
				return nil, i + 1, err
			}
		}
		if noWords.MatchString(l) {
			continue
		}
		s, ok := wantStep(l)
		if !ok {
			return nil, i + 1, api.ErrStep
		}
		steps = append(steps, s)
	}
	return steps, 0, api.OK
}

// wantStep is the step that a line says, if it says one.
func wantStep(line string) (api.Step, bool) {
	for kind := 1; kind <= lastKind; kind++ {
		groups := patterns[kind].FindStringSubmatch(line)
		if groups == nil {
			continue
		}
		s := api.Step{Kind: kind}
		for i, name := range fields(kind) {
			setField(reflect.ValueOf(&s).Elem().FieldByName(name), groups[i+1])
		}
		return s, true
	}
	return api.Step{}, false
}

// setField gives a field what the words of its group say.
func setField(field reflect.Value, words string) {
	switch field.Interface().(type) {
	case int:
		n, _ := strconv.Atoi(words)
		field.SetInt(int64(n))
	case []int:
		for _, w := range strings.Fields(words) {
			n, _ := strconv.Atoi(w)
			field.Set(reflect.Append(field, reflect.ValueOf(n)))
		}
	case string:
		said, _, _ := quote.Unquote(words)
		field.SetString(said)
	case []byte:
		said, _, _ := quote.Unquote(words)
		field.SetBytes([]byte(said))
	}
}

// has tells whether there is a kind of steps.
func has(kind int) bool { return kind >= 1 && kind <= lastKind }

// wantLine is a step's line; what it is for another kind is Tell's.
func wantLine(s api.Step) string {
	if !has(s.Kind) {
		return fmt.Sprintf("step %d\n", s.Kind)
	}
	line, _, _ := strings.Cut(rows[s.Kind], " ")
	for _, name := range fields(s.Kind) {
		switch x := reflect.ValueOf(s).FieldByName(name).Interface().(type) {
		case string:
			line += " " + quote.Quote(x)
		case []byte:
			line += " " + quote.Quote(string(x))
		default:
			line += flat(x)
		}
	}
	return line + "\n"
}

// wantPrint is what Print has to answer.
func wantPrint(steps []api.Step) (string, api.Errno) {
	text := ""
	for _, s := range steps {
		if !has(s.Kind) {
			return "", api.ErrStep
		}
		text += wantLine(s)
	}
	return text, api.OK
}

// flat is all numbers of anything that is made of numbers, each with a blank ahead.
func flat(x any) string {
	words := strings.Fields(brackets.ReplaceAllString(fmt.Sprint(x), " "))
	return strings.Join(append([]string{""}, words...), " ")
}

// when is a word with a blank ahead, if something holds.
func when(holds bool, word string) string {
	return strings.Repeat(" "+word, map[bool]int{true: 1}[holds])
}

// wantTell is what Tell has to answer.
func wantTell(s api.Step, a api.Answer) string {
	told := wantLine(s)
	if a.Err != api.OK {
		told += fmt.Sprintf("  error %d\n", int(a.Err))
	} else if s.Kind == api.StepText {
		told += fmt.Sprintf("  text %s\n", quote.Quote(a.Text))
	}
	if o := a.Op; o.Kind != 0 {
		told += fmt.Sprintf("  op%s after%s %s\n", flat(o.Dot), flat(o.Deps), wantDone(o))
	}
	if x := a.Sight; x.Site != 0 {
		told += fmt.Sprintf("  site %d%s%s clock %d tick %d log %d kept %d epoch %d\n", x.Site, when(x.Active, "active"), when(x.Leaving, "leaving"), x.Clock, x.Tick, x.Log, x.Kept, x.Epoch)
		told += fmt.Sprintf("  vector%s\n  base%s\n  held%s\n  members%s\n", flat(x.Vector), flat(x.Base), flat(x.Held), flat(x.Members))
		for _, p := range x.Peers {
			told += fmt.Sprintf("  peer %d%s got %d credit %d gap %d due %d\n", p.Peer, when(p.Heard, "heard"), p.Got, p.Credit, p.Gap, p.Due)
			told += fmt.Sprintf("    row%s\n    usable%s\n    flight%s\n", flat(p.Row), flat(p.Usable), flat(p.Flight))
		}
	}
	for _, c := range a.Copies {
		told += fmt.Sprintf("  copy %d from %d to %d sent %d%s %s\n", c.Num, c.From, c.To, c.Sent, when(c.Bad, "bad"), quote.Quote(string(c.Data)))
	}
	return told
}

// wantDone is what stands behind an operation's Deps.
func wantDone(o api.Op) string {
	switch o.Kind {
	case api.OpInsert:
		return fmt.Sprintf("insert%s behind%s %s", flat(o.ID), flat(o.Ref), quote.Quote(o.Text))
	case api.OpDelete:
		return "delete" + flat(o.Gone)
	case api.OpJoin:
		return fmt.Sprintf("join %d", o.Site)
	case api.OpLeave:
		return "leave"
	}
	return fmt.Sprintf("kind %d", o.Kind)
}
