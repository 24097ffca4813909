package script_test

import (
	"math"
	"slices"
	"strconv"
	"strings"
	"testing"

	"hearsay/api"
	"hearsay/quote"
	"hearsay/script"
)

// none is kinds that there are not.
func none() []int {
	return slices.DeleteFunc(slices.Clone(edges), has)
}

// full is a step of a kind with something in each of its fields.
func full(kind int) api.Step {
	return api.Step{Kind: kind, Site: 11, Peer: 12, Unit: 13, At: 14, N: 15, Text: "sixteen", Draws: []int{17, 18}, Data: []byte("nineteen")}
}

// TestPrintEachKind: P22.2: the line of each kind, whatever stands in fields that it does not have.
func TestPrintEachKind(t *testing.T) {
	all := ""
	var steps []api.Step
	for kind, want := range []string{
		1: `insert 11 14 "sixteen"`, 2: "delete 11 14 15", 3: "join 11 12", 4: "leave 11", 5: "stop 11", 6: "tick 17 18", 7: "deliver 15", 8: "drop 15",
		9: "double 15", 10: `alter 15 14 "nineteen"`, 11: "cut 15 14", 12: "text 11", 13: "sight 11", 14: "copies",
	} {
		if kind == 0 {
			continue
		}
		wantPrinted(t, want+"\n", full(kind))
		wantPrinted(t, want+"\n", bare(full(kind)))
		all += want + "\n"
		steps = append(steps, full(kind))
	}
	wantPrinted(t, all, steps...)
	for kind, want := range []string{
		1: `insert 0 0 ""`, 2: "delete 0 0 0", 3: "join 0 0", 4: "leave 0", 5: "stop 0", 6: "tick", 7: "deliver 0", 8: "drop 0", 9: "double 0", 10: `alter 0 0 ""`, 11: "cut 0 0", 12: "text 0", 13: "sight 0", 14: "copies",
	} {
		if kind == 0 {
			continue
		}
		wantPrinted(t, want+"\n", api.Step{Kind: kind})
		wantPrinted(t, want+"\n", api.Step{Kind: kind, Draws: []int{}, Data: []byte{}})
	}
}

// TestPrintNothing: P22.2, W5: of no step there is no line.
func TestPrintNothing(t *testing.T) {
	wantPrinted(t, "")
	for _, steps := range [][]api.Step{nil, {}, make([]api.Step, 0, 5)} {
		if text, err := script.Print(steps); text != "" || err != api.OK {
			t.Errorf("%+q, %d", text, int(err))
		}
	}
}

// TestPrintOtherKinds: P22.2, W3: kinds that there are not, alone and behind and ahead of good ones: no text at all.
func TestPrintOtherKinds(t *testing.T) {
	want := func(steps ...api.Step) {
		t.Helper()
		if text, err := script.Print(steps); text != "" || err != api.ErrStep {
			t.Errorf("Print(%+v): %+q, %d", steps, text, int(err))
		}
		bothPrint(t, steps)
	}
	for _, kind := range none() {
		want(api.Step{Kind: kind})
		want(full(kind))
		for k := 1; k <= lastKind; k++ {
			want(full(k), api.Step{Kind: kind})
			want(api.Step{Kind: kind}, full(k))
			want(full(k), full(kind), full(k))
		}
	}
	want(append(slices.Repeat([]api.Step{full(1)}, 1000), api.Step{})...)
}

// TestPrintNumbers: P22.2: numbers in decimal digits, with a sign if they are below 0.
func TestPrintNumbers(t *testing.T) {
	for _, n := range edges {
		w := strconv.Itoa(n)
		wantPrinted(t, "insert "+w+" "+w+" \"\"\n", api.Step{Kind: api.StepInsert, Site: n, At: n})
		wantPrinted(t, "delete "+w+" 1 2\ndelete 3 "+w+" 4\ndelete 5 6 "+w+"\n",
			api.Step{Kind: api.StepDelete, Site: n, At: 1, N: 2}, api.Step{Kind: api.StepDelete, Site: 3, At: n, N: 4}, api.Step{Kind: api.StepDelete, Site: 5, At: 6, N: n})
		wantPrinted(t, "join "+w+" 1\njoin 2 "+w+"\n", api.Step{Kind: api.StepJoin, Site: n, Peer: 1}, api.Step{Kind: api.StepJoin, Site: 2, Peer: n})
		wantPrinted(t, "tick "+w+"\ntick 1 "+w+" "+w+" 2\n", api.Step{Kind: api.StepTick, Draws: []int{n}}, api.Step{Kind: api.StepTick, Draws: []int{1, n, n, 2}})
		wantPrinted(t, "alter "+w+" 1 \"\"\ncut 2 "+w+"\n", api.Step{Kind: api.StepAlter, N: n, At: 1}, api.Step{Kind: api.StepCut, N: 2, At: n})
		wantPrinted(t, "text "+w+"\nsight "+w+"\ndrop "+w+"\n", api.Step{Kind: api.StepText, Site: n}, api.Step{Kind: api.StepSight, Site: n}, api.Step{Kind: api.StepDrop, N: n})
	}
	wantPrinted(t, "leave -9223372036854775808\nleave 9223372036854775807\n", api.Step{Kind: api.StepLeave, Site: math.MinInt}, api.Step{Kind: api.StepLeave, Site: math.MaxInt})
}

// TestPrintTexts: P22.2: texts as chapter 4 lays them, in one line whatever their bytes.
func TestPrintTexts(t *testing.T) {
	wantPrinted(t, `insert 1 0 "a\"\\\n\r\t\x00\x7f\xff\u{200b}é"`+"\n", api.Step{Kind: api.StepInsert, Site: 1, Text: "a\"\\\n\r\t\x00\x7f\xff\u200bé"})
	wantPrinted(t, `alter 1 0 "a\"\\\n\r\t\x00\x7f\xff\u{200b}é"`+"\n", api.Step{Kind: api.StepAlter, N: 1, Data: []byte("a\"\\\n\r\t\x00\x7f\xff\u200bé")})
	var bytes []byte
	for b := range 256 {
		bytes = append(bytes, byte(b))
	}
	for _, text := range []string{"", "\n", "\"\ncopies\n", string(bytes), strings.Repeat(string(bytes), 20)} {
		wantPrinted(t, "insert 1 2 "+quote.Quote(text)+"\n", api.Step{Kind: api.StepInsert, Site: 1, At: 2, Text: text})
		wantPrinted(t, "alter 1 2 "+quote.Quote(text)+"\n", api.Step{Kind: api.StepAlter, N: 1, At: 2, Data: []byte(text)})
	}
}
