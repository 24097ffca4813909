package script_test

import (
	"fmt"
	"reflect"
	"slices"
	"strings"
	"testing"
	"unsafe"

	"hearsay/api"
	"hearsay/script"
)

// lent is a text whose bytes may be spoilt afterwards.
func lent(s string) string {
	b := []byte(s)
	return unsafe.String(unsafe.SliceData(b), len(b))
}

// roomy is the same with texts that are lent, and with room behind the end of each list, in which something stands.
func roomy[T any](x T) T {
	v := reflect.New(reflect.TypeFor[T]()).Elem()
	v.Set(copied(reflect.ValueOf(x)))
	each(v, func(list reflect.Value) {
		wide := reflect.MakeSlice(list.Type(), list.Len(), list.Len()+3)
		reflect.Copy(wide, list)
		for i := range 3 {
			mark(wide.Slice(0, list.Len()+3).Index(list.Len() + i))
		}
		list.Set(wide)
	}, func(text reflect.Value) { text.SetString(lent(text.String())) })
	return v.Interface().(T)
}

// each goes through all lists and texts of a value, each list ahead of what is in it.
func each(v reflect.Value, list, text func(reflect.Value)) {
	switch v.Kind() {
	case reflect.Struct:
		for i := range v.NumField() {
			each(v.Field(i), list, text)
		}
	case reflect.Slice:
		list(v)
		for i := range v.Len() {
			each(v.Index(i), list, text)
		}
	case reflect.String:
		text(v)
	}
}

// mark sets the numbers of a value to one that nobody else sets.
func mark(v reflect.Value) {
	switch v.Kind() {
	case reflect.Struct:
		for i := range v.NumField() {
			mark(v.Field(i))
		}
	case reflect.Int:
		v.SetInt(-777)
	case reflect.Uint8:
		v.SetUint(0xdd)
	}
}

// spoil marks all that the lists of a value have, their room too, and the bytes of its texts, which have to be lent.
func spoil[T any](x *T) {
	each(reflect.ValueOf(x).Elem(), func(list reflect.Value) {
		for i := range list.Len() {
			each(list.Index(i), spoilList, spoilText)
		}
		spoilList(list)
	}, spoilText)
}

func spoilList(list reflect.Value) {
	for i := range list.Cap() {
		mark(list.Slice(0, list.Cap()).Index(i))
	}
}

func spoilText(text reflect.Value) {
	b := unsafe.Slice(unsafe.StringData(text.String()), len(text.String()))
	for i := range b {
		b[i] = '!'
	}
}

// look is all that a value has, with the room behind its lists.
func look[T any](x *T) string {
	seen := fmt.Sprintf("%+v", *x)
	each(reflect.ValueOf(x).Elem(), func(list reflect.Value) {
		seen += fmt.Sprintf("; %+v", list.Slice(0, list.Cap()).Interface())
	}, func(reflect.Value) {})
	return seen
}

// TestParseApart: P22.6, W6: the steps share nothing with the text, nor with other answers, nor with one another, room behind their ends too.
func TestParseApart(t *testing.T) {
	text, want := whole()
	text, want = strings.Repeat(text, 3), slices.Repeat(want, 3)
	given := lent(text)
	var answers [][]api.Step
	for range 3 {
		steps, _, err := script.Parse(given)
		if !same(steps, want) || err != api.OK {
			t.Fatalf("%+v, %d", steps, int(err))
		}
		answers = append(answers, steps)
	}
	if given != text {
		t.Errorf("the text is %q now", given)
	}
	spoilText(reflect.ValueOf(given))
	wantAll := func(about string) {
		t.Helper()
		for _, steps := range answers {
			if !same(steps, want) {
				t.Fatalf("behind %s: %+v; want %+v", about, steps, want)
			}
		}
	}
	wantAll("spoiling the text")
	for _, steps := range answers {
		for i := range steps {
			s := &steps[i]
			spoilList(reflect.ValueOf(s.Draws))
			s.Draws = want[i].Draws
			wantAll("spoiling Draws")
			spoilList(reflect.ValueOf(s.Data))
			s.Data = want[i].Data
			wantAll("spoiling Data")
		}
	}
	for i, steps := range answers {
		spoilList(reflect.ValueOf(steps[:cap(steps)]))
		answers[i] = want
		wantAll("spoiling steps")
	}
}

// TestPrintApart: P22.6, W6: what was printed has nothing to do with the steps that were handed in, and they stay as they were.
func TestPrintApart(t *testing.T) {
	var steps []api.Step
	for kind := range lastKind {
		steps = append(steps, full(kind+1))
	}
	want, _ := wantPrint(steps)
	given := roomy(steps)
	was := look(&given)
	text, err := script.Print(given)
	if text != want || err != api.OK {
		t.Errorf("%+q, %d; want %+q", text, int(err), want)
	}
	if now := look(&given); now != was {
		t.Errorf("the steps are %s now; they were %s", now, was)
	}
	spoil(&given)
	if text != want {
		t.Errorf("%+q now; it was %+q", text, want)
	}
	given = roomy(append(steps, api.Step{}))
	was = look(&given)
	if _, err := script.Print(given); err != api.ErrStep || look(&given) != was {
		t.Errorf("%d: the steps are %s now; they were %s", int(err), look(&given), was)
	}
}

// TestTellApart: P22.6, W6: what was told has nothing to do with the step and the answer that were handed in, and they stay as they were.
func TestTellApart(t *testing.T) {
	for kind := range lastKind + 2 {
		for op := range 6 {
			s, a := roomy(full(kind)), roomy(fullAnswer(op))
			want := wantTell(full(kind), fullAnswer(op))
			wasStep, wasAnswer := look(&s), look(&a)
			told := script.Tell(s, a)
			if told != want {
				t.Errorf("%+q; want %+q", told, want)
			}
			if now := look(&s); now != wasStep {
				t.Errorf("the step is %s now; it was %s", now, wasStep)
			}
			if now := look(&a); now != wasAnswer {
				t.Errorf("the answer is %s now; it was %s", now, wasAnswer)
			}
			spoil(&s)
			spoil(&a)
			if told != want {
				t.Errorf("%+q now; it was %+q", told, want)
			}
		}
	}
}

// TestOnOneArray: P22.6, W6: lists that share an array, one behind the other, stay as they are.
func TestOnOneArray(t *testing.T) {
	numbers := []int{1, 2, 3, 4, 5, 6}
	data := []byte("abcdef")
	dots := []api.Dot{{Site: 1, Seq: 2}, {Site: 3, Seq: 4}, {Site: 5, Seq: 6}}
	steps := []api.Step{{Kind: api.StepTick, Draws: numbers[:2]}, {Kind: api.StepTick, Draws: numbers[:4]}, {Kind: api.StepAlter, Data: data[:1]}, {Kind: api.StepAlter, Data: data[1:3]}}
	a := api.Answer{
		Op:    api.Op{Kind: api.OpLeave, Deps: dots[:1]},
		Sight: api.Sight{Site: 1, Vector: dots[:2], Base: dots[:1], Held: dots[:0], Members: numbers[:3], Peers: []api.PeerSight{{Row: dots[1:2], Flight: numbers[:1]}}},
	}
	for range 2 {
		wantPrinted(t, "tick 1 2\ntick 1 2 3 4\nalter 0 0 \"a\"\nalter 0 0 \"bc\"\n", steps...)
		wantTold(t, steps[0], a, "tick 1 2\n  op 0 0 after 1 2 leave\n  site 1 clock 0 tick 0 log 0 kept 0 epoch 0\n  vector 1 2 3 4\n  base 1 2\n  held\n  members 1 2 3\n"+
			"  peer 0 got 0 credit 0 gap 0 due 0\n    row 3 4\n    usable\n    flight 1\n")
	}
	if !slices.Equal(numbers, []int{1, 2, 3, 4, 5, 6}) || string(data) != "abcdef" || dots[2] != (api.Dot{Site: 5, Seq: 6}) {
		t.Errorf("%v, %q, %v", numbers, data, dots)
	}
}
