package script_test

import (
	"reflect"
	"slices"
	"strconv"
	"strings"
	"testing"

	"hearsay/api"
	"hearsay/quote"
	"hearsay/script"
)

// TestTellExamples: P22.3: the rows of the chapter's second examples.
func TestTellExamples(t *testing.T) {
	wantTold(t, api.Step{Kind: 99}, api.Answer{Err: api.ErrStep}, "step 99\n  error 19\n")
	wantTold(t, api.Step{Kind: api.StepText, Site: 1}, api.Answer{Text: `a"`}, "text 1\n"+`  text "a\""`+"\n")
	left := api.Op{Kind: api.OpLeave, Dot: api.Dot{Site: 3, Seq: 2}, Deps: api.Vector{{Site: 1, Seq: 5}, {Site: 3, Seq: 1}}}
	wantTold(t, api.Step{Kind: api.StepLeave, Site: 3}, api.Answer{Op: left}, "leave 3\n  op 3 2 after 1 5 3 1 leave\n")
	lost := api.Copy{Num: 7, From: 1, To: 2, Sent: 4, Bad: true, Data: []byte{1}}
	wantTold(t, api.Step{Kind: api.StepDrop, N: 7}, api.Answer{Copies: []api.Copy{lost}}, "drop 7\n"+`  copy 7 from 1 to 2 sent 4 bad "\x01"`+"\n")
}

// TestTellSteps: P22.3: each kind of step, and kinds that there are not, with each error and with none.
func TestTellSteps(t *testing.T) {
	errs := []api.Errno{-1, 21, 1 << 40}
	for err := api.OK; err <= api.ErrClosed; err++ {
		errs = append(errs, err)
	}
	for _, kind := range append([]int{1, 2, 3, 4, 5, 6, 7, 8, 9, 10, 11, 12, 13, 14}, none()...) {
		for _, s := range []api.Step{full(kind), {Kind: kind}} {
			first, err := script.Print([]api.Step{s})
			if err != api.OK {
				first = "step " + strconv.Itoa(kind) + "\n"
			}
			for _, err := range errs {
				want := first
				if err != api.OK {
					want += "  error " + strconv.Itoa(int(err)) + "\n"
				} else if kind == api.StepText {
					want += "  text \"\"\n"
				}
				wantTold(t, s, api.Answer{Err: err}, want)
			}
		}
	}
}

// TestTellText: P22.3: what a StepText answers, of any bytes and of none; not beside an error, and of no other step.
func TestTellText(t *testing.T) {
	for _, text := range []string{"", "a", "hé\n\"", "\xff\x00", "\u200b", "  text \"x\"\n  error 3"} {
		for kind := range lastKind + 2 {
			line := wantLine(api.Step{Kind: kind, Site: 1})
			wantTold(t, api.Step{Kind: kind, Site: 1}, api.Answer{Text: text, Err: api.ErrGone}, line+"  error 16\n")
			if kind == api.StepText {
				line += "  text " + quote.Quote(text) + "\n"
			}
			wantTold(t, api.Step{Kind: kind, Site: 1}, api.Answer{Text: text}, line)
		}
	}
}

// fullOp is an operation of a kind with something in each of its fields.
func fullOp(kind int) api.Op {
	return api.Op{
		Dot: api.Dot{Site: 21, Seq: 22}, Deps: api.Vector{{Site: 23, Seq: 24}, {Site: 25, Seq: 26}}, Kind: kind, ID: api.ID{Time: 27, Site: 28}, Ref: api.ID{Time: 29, Site: 30},
		Text: "thirty-one", Gone: []api.Run{{ID: api.ID{Time: 32, Site: 33}, Count: 34}, {ID: api.ID{Time: 35, Site: 36}, Count: 37}}, Site: 38,
	}
}

// TestTellOps: P22.3: operations of each kind and of kinds that there are not, with nothing in them, and with something in what their kind does not have.
func TestTellOps(t *testing.T) {
	want := func(o api.Op, told string) {
		t.Helper()
		wantTold(t, api.Step{Kind: api.StepCopies}, api.Answer{Op: o}, "copies\n  op "+told+"\n")
		wantTold(t, api.Step{Kind: api.StepStop, Site: 4}, api.Answer{Op: o, Err: api.ErrGone}, "stop 4\n  error 16\n  op "+told+"\n")
	}
	want(fullOp(api.OpInsert), `21 22 after 23 24 25 26 insert 27 28 behind 29 30 "thirty-one"`)
	want(fullOp(api.OpDelete), "21 22 after 23 24 25 26 delete 32 33 34 35 36 37")
	want(fullOp(api.OpJoin), "21 22 after 23 24 25 26 join 38")
	want(fullOp(api.OpLeave), "21 22 after 23 24 25 26 leave")
	want(api.Op{Kind: api.OpInsert}, `0 0 after insert 0 0 behind 0 0 ""`)
	want(api.Op{Kind: api.OpDelete}, "0 0 after delete")
	want(api.Op{Kind: api.OpDelete, Deps: api.Vector{}, Gone: []api.Run{}}, "0 0 after delete")
	want(api.Op{Kind: api.OpJoin}, "0 0 after join 0")
	want(api.Op{Kind: api.OpLeave}, "0 0 after leave")
	for _, kind := range edges {
		if kind < 0 || kind > 4 {
			want(fullOp(kind), "21 22 after 23 24 25 26 kind "+strconv.Itoa(kind))
			want(api.Op{Kind: kind}, "0 0 after kind "+strconv.Itoa(kind))
		}
	}
	o := fullOp(0)
	wantTold(t, api.Step{Kind: api.StepCopies}, api.Answer{Op: o}, "copies\n")
	for _, n := range edges {
		w := strconv.Itoa(n)
		want(api.Op{Kind: api.OpInsert, Dot: api.Dot{Site: n, Seq: 1}, Deps: api.Vector{{Site: n, Seq: n}}, ID: api.ID{Time: 2, Site: n}, Ref: api.ID{Time: n}},
			w+" 1 after "+w+" "+w+" insert 2 "+w+" behind "+w+` 0 ""`)
		want(api.Op{Kind: api.OpDelete, Dot: api.Dot{Site: 1, Seq: n}, Gone: []api.Run{{}, {ID: api.ID{Time: n, Site: 1}, Count: 2}, {ID: api.ID{Time: 3, Site: n}, Count: n}}},
			"1 "+w+" after delete 0 0 0 "+w+" 1 2 3 "+w+" "+w)
		want(api.Op{Kind: api.OpJoin, Site: n}, "0 0 after join "+w)
	}
	for _, text := range []string{"", "\n", "\xff\xfe\"", "insert 1 2", strings.Repeat("𝄞", 1024)} {
		want(api.Op{Kind: api.OpInsert, Text: text}, "0 0 after insert 0 0 behind 0 0 "+quote.Quote(text))
	}
	want(api.Op{Kind: api.OpDelete, Gone: slices.Repeat([]api.Run{{ID: api.ID{Time: 5, Site: 6}, Count: 7}}, 1024)}, "0 0 after delete"+strings.Repeat(" 5 6 7", 1024))
	want(api.Op{Kind: api.OpLeave, Deps: slices.Repeat(api.Vector{{Site: 5, Seq: 6}}, 1024)}, "0 0 after"+strings.Repeat(" 5 6", 1024)+" leave")
}

// fullSight is a sight with something in each of its fields.
func fullSight() api.Sight {
	return api.Sight{
		Site: 40, Active: true, Leaving: true, Vector: api.Vector{{Site: 41, Seq: 42}, {Site: 43, Seq: 44}}, Base: api.Vector{{Site: 45, Seq: 46}},
		Clock: 47, Tick: 48, Held: []api.Dot{{Site: 49, Seq: 50}, {Site: 51, Seq: 52}, {Site: 53, Seq: 54}}, Log: 55, Kept: 56, Members: []int{57, 58, 59}, Epoch: 60,
		Peers: []api.PeerSight{
			{Peer: 61, Heard: true, Row: api.Vector{{Site: 62, Seq: 63}, {Site: 64, Seq: 65}}, Usable: api.Vector{{Site: 66, Seq: 67}}, Flight: []int{68, 69}, Got: 70, Credit: 71, Gap: 72, Due: 73},
			{Peer: 74, Row: api.Vector{{Site: 75, Seq: 76}}, Usable: api.Vector{{Site: 77, Seq: 78}, {Site: 79, Seq: 80}}, Flight: []int{81}, Got: 82, Credit: 83, Gap: 84, Due: 85},
		},
	}
}

const fullSightTold = `  site 40 active leaving clock 47 tick 48 log 55 kept 56 epoch 60
  vector 41 42 43 44
  base 45 46
  held 49 50 51 52 53 54
  members 57 58 59
  peer 61 heard got 70 credit 71 gap 72 due 73
    row 62 63 64 65
    usable 66 67
    flight 68 69
  peer 74 got 82 credit 83 gap 84 due 85
    row 75 76
    usable 77 78 79 80
    flight 81
`

// TestTellSights: P22.3: sights active, leaving, both and neither, with no, one and many Dots, members and peers, peers heard and not.
func TestTellSights(t *testing.T) {
	want := func(s api.Sight, told string) {
		t.Helper()
		wantTold(t, api.Step{Kind: api.StepSight, Site: 1}, api.Answer{Sight: s}, "sight 1\n"+told)
	}
	want(fullSight(), fullSightTold)
	const lists = "  vector\n  base\n  held\n  members\n"
	const numbers = " clock 0 tick 0 log 0 kept 0 epoch 0\n"
	want(api.Sight{Site: 1}, "  site 1"+numbers+lists)
	want(api.Sight{Site: 1, Active: true}, "  site 1 active"+numbers+lists)
	want(api.Sight{Site: 1, Leaving: true}, "  site 1 leaving"+numbers+lists)
	want(api.Sight{Site: 1, Active: true, Leaving: true, Vector: api.Vector{}, Peers: []api.PeerSight{}}, "  site 1 active leaving"+numbers+lists)
	idle := fullSight()
	idle.Site = 0
	want(idle, "")
	want(api.Sight{Site: 1, Peers: []api.PeerSight{{}, {Heard: true}, {}}}, "  site 1"+numbers+lists+
		"  peer 0 got 0 credit 0 gap 0 due 0\n    row\n    usable\n    flight\n"+
		"  peer 0 heard got 0 credit 0 gap 0 due 0\n    row\n    usable\n    flight\n"+
		"  peer 0 got 0 credit 0 gap 0 due 0\n    row\n    usable\n    flight\n")
	for _, n := range edges {
		if n == 0 {
			continue
		}
		w := strconv.Itoa(n)
		want(api.Sight{Site: n, Clock: n}, "  site "+w+" clock "+w+" tick 0 log 0 kept 0 epoch 0\n"+lists)
		want(api.Sight{Site: 1, Tick: n, Log: 2, Kept: n, Epoch: n}, "  site 1 clock 0 tick "+w+" log 2 kept "+w+" epoch "+w+"\n"+lists)
		want(api.Sight{Site: 1, Log: n, Members: []int{n, 1, n}, Held: []api.Dot{{Site: n, Seq: 1}, {Site: 2, Seq: n}}},
			"  site 1 clock 0 tick 0 log "+w+" kept 0 epoch 0\n  vector\n  base\n  held "+w+" 1 2 "+w+"\n  members "+w+" 1 "+w+"\n")
		want(api.Sight{Site: 1, Peers: []api.PeerSight{{Peer: n, Got: 1, Credit: n, Gap: 2, Due: n, Flight: []int{n}}}}, "  site 1"+numbers+lists+
			"  peer "+w+" got 1 credit "+w+" gap 2 due "+w+"\n    row\n    usable\n    flight "+w+"\n")
		want(api.Sight{Site: 1, Peers: []api.PeerSight{{Got: n, Gap: n, Row: api.Vector{{Site: n, Seq: 1}}, Usable: api.Vector{{Site: 2, Seq: n}}}}}, "  site 1"+numbers+lists+
			"  peer 0 got "+w+" credit 0 gap "+w+" due 0\n    row "+w+" 1\n    usable 2 "+w+"\n    flight\n")
	}
	many := api.Sight{Site: 1, Vector: slices.Repeat(api.Vector{{Site: 2, Seq: 3}}, 500), Members: slices.Repeat([]int{4}, 500), Peers: slices.Repeat(fullSight().Peers[1:], 500)}
	told := strings.SplitAfter(fullSightTold, "\n")
	want(many, "  site 1"+numbers+"  vector"+strings.Repeat(" 2 3", 500)+"\n  base\n  held\n  members"+strings.Repeat(" 4", 500)+"\n"+strings.Repeat(strings.Join(told[9:], ""), 500))
}

// TestTellCopies: P22.3: copies bad and not, with no bytes, with any and with many, none, one and many of them.
func TestTellCopies(t *testing.T) {
	want := func(told string, copies ...api.Copy) {
		t.Helper()
		wantTold(t, api.Step{Kind: api.StepCopies}, api.Answer{Copies: copies}, "copies\n"+told)
		wantTold(t, api.Step{Kind: api.StepDeliver, N: 5}, api.Answer{Copies: copies, Err: api.ErrSum}, "deliver 5\n  error 8\n"+told)
	}
	want("")
	want("  copy 0 from 0 to 0 sent 0 \"\"\n", api.Copy{})
	want("  copy 0 from 0 to 0 sent 0 bad \"\"\n", api.Copy{Bad: true, Data: []byte{}})
	want("  copy 5 from 6 to 7 sent 8 \"a\"\n  copy 1 from 2 to 3 sent 4 bad \"\\xff\"\n  copy 5 from 6 to 7 sent 8 \"\"\n",
		api.Copy{Num: 5, From: 6, To: 7, Sent: 8, Data: []byte("a")}, api.Copy{Num: 1, From: 2, To: 3, Sent: 4, Bad: true, Data: []byte{255}}, api.Copy{Num: 5, From: 6, To: 7, Sent: 8})
	for _, n := range edges {
		w := strconv.Itoa(n)
		want("  copy "+w+" from 1 to "+w+" sent 2 \"\"\n  copy 3 from "+w+" to 4 sent "+w+" bad \"\"\n", api.Copy{Num: n, From: 1, To: n, Sent: 2}, api.Copy{Num: 3, From: n, To: 4, Sent: n, Bad: true})
	}
	var data []byte
	for b := range 256 {
		data = append(data, byte(b))
		want("  copy 1 from 2 to 3 sent 4 "+quote.Quote(string(data[b:]))+"\n", api.Copy{Num: 1, From: 2, To: 3, Sent: 4, Data: data[b:]})
	}
	data = slices.Repeat(data, 100)
	want(strings.Repeat("  copy 1 from 2 to 3 sent 4 "+quote.Quote(string(data))+"\n", 20), slices.Repeat([]api.Copy{{Num: 1, From: 2, To: 3, Sent: 4, Data: data}}, 20)...)
}

// fullAnswer is an answer with something in each of its fields.
func fullAnswer(kind int) api.Answer {
	return api.Answer{Text: "ninety", Op: fullOp(kind), Sight: fullSight(), Copies: []api.Copy{
		{Num: 91, From: 92, To: 93, Data: []byte("ninety-four"), Sent: 95, Bad: true}, {Num: 96, From: 97, To: 98, Data: []byte("ninety-nine"), Sent: 100},
	}}
}

// TestTellAll: P22.3: everything in one answer, in the order of the chapter's list.
func TestTellAll(t *testing.T) {
	const behind = "  op 21 22 after 23 24 25 26 join 38\n" + fullSightTold + "  copy 91 from 92 to 93 sent 95 bad \"ninety-four\"\n  copy 96 from 97 to 98 sent 100 \"ninety-nine\"\n"
	a := fullAnswer(api.OpJoin)
	wantTold(t, full(api.StepText), a, "text 11\n  text \"ninety\"\n"+behind)
	wantTold(t, full(api.StepTick), a, "tick 17 18\n"+behind)
	wantTold(t, full(15), a, "step 15\n"+behind)
	a.Err = api.ErrClosed
	for kind := -1; kind <= lastKind+1; kind++ {
		s := full(kind)
		wantTold(t, s, a, wantLine(s)+"  error 20\n"+behind)
	}
}

// turned goes through all that a value is made of: each number, text and bool is turned, of each list the last element taken away, one laid behind, the first two exchanged; told which, and put back behind it.
func turned(v reflect.Value, path string, tell func(path string)) {
	was := copied(v)
	turn := func(to any) {
		v.Set(reflect.ValueOf(to).Convert(v.Type()))
		tell(path)
		v.Set(was)
	}
	switch v.Kind() {
	case reflect.Int:
		for _, n := range []int64{-v.Int(), v.Int() + 1, v.Int() - 1, v.Int() * 10, v.Int() + 1<<32} {
			if n != v.Int() {
				turn(n)
			}
		}
	case reflect.Uint8:
		turn(v.Uint() ^ 1)
	case reflect.Bool:
		turn(!v.Bool())
	case reflect.String:
		for _, s := range []string{v.String() + "x", v.String() + "\n", v.String() + "\x00", strings.ToUpper(v.String()), `\x41` + v.String(), "A" + v.String()} {
			turn(s)
		}
	case reflect.Struct:
		for i := range v.NumField() {
			turned(v.Field(i), path+"."+v.Type().Field(i).Name, tell)
		}
	case reflect.Slice:
		for i := range v.Len() {
			turned(v.Index(i), path, tell)
		}
		if v.Len() > 0 {
			turn(v.Slice(0, v.Len()-1).Interface())
		}
		turn(reflect.Append(copied(v), reflect.Zero(v.Type().Elem())).Interface())
		if v.Len() > 1 {
			turn(reflect.AppendSlice(reflect.Append(reflect.Zero(v.Type()), v.Index(1), v.Index(0)), v.Slice(2, v.Len())).Interface())
		}
	}
}

// TestTurned: P22.3, P22.5: each named thing of an answer turned is told unlike all others; what is not named is told alike.
func TestTurned(t *testing.T) {
	ofOp := map[int][]string{api.OpInsert: {".Op.ID", ".Op.Ref", ".Op.Text"}, api.OpDelete: {".Op.Gone"}, api.OpJoin: {".Op.Site"}, api.OpLeave: {}, 9: {}}
	for _, step := range []int{api.StepText, api.StepSight, 15} {
		for kind, fields := range ofOp {
			a := fullAnswer(kind)
			told := bothTell(t, full(step), a)
			names := append([]string{".Err", ".Op.Dot", ".Op.Deps", ".Op.Kind", ".Sight", ".Copies"}, fields...)
			if step == api.StepText {
				names = append(names, ".Text")
			}
			seen, alike := map[string]string{told: "nothing"}, 0
			turned(reflect.ValueOf(&a).Elem(), "", func(path string) {
				is := func(name string) bool { return strings.HasPrefix(path, name) }
				now := bothTell(t, full(step), a)
				if !slices.ContainsFunc(names, is) {
					if alike++; now != told {
						t.Errorf("step %d, op %d: %s is told", step, kind, path)
					}
					return
				}
				if other, ok := seen[now]; ok {
					t.Errorf("step %d, op %d: %s turned is told as %s turned", step, kind, path, other)
				}
				seen[now] = path
			})
			if len(seen) < 250 || alike < 20 {
				t.Errorf("%d were told unlike, %d alike", len(seen), alike)
			}
		}
	}
}

// TestTurnedSteps: P22.2, P22.3: each thing that a kind has turned makes another line; what it does not have makes none.
func TestTurnedSteps(t *testing.T) {
	for kind := 1; kind <= lastKind; kind++ {
		s := full(kind)
		line := bothTell(t, s, api.Answer{})
		seen := map[string]string{line: "nothing"}
		turned(reflect.ValueOf(&s).Elem(), "", func(path string) {
			now := bothTell(t, s, api.Answer{})
			other, ok := seen[now]
			switch {
			case path == ".Kind" || slices.Contains(fields(kind), path[1:]):
				if ok && path != ".Kind" {
					t.Errorf("kind %d: %s turned is told as %s turned", kind, path, other)
				}
				seen[now] = path
			case now != line:
				t.Errorf("kind %d: %s is told", kind, path)
			}
		})
	}
}
