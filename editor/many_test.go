package editor_test

import (
	"fmt"
	"math/rand"
	"reflect"
	"slices"
	"strings"
	"sync"
	"testing"

	"hearsay/api"
	"hearsay/editor"
	"hearsay/replica"
)

// atOnce lets so many goroutines begin at one time, and waits for all of them.
func atOnce(n int, do func(k int)) {
	var all sync.WaitGroup
	begin := make(chan int)
	for k := range n {
		all.Add(1)
		go func() {
			defer all.Done()
			<-begin
			do(k)
		}()
	}
	close(begin)
	all.Wait()
}

// a saying is what a call was and what it answered.
type saying func(e *editor.Editor) string

// someCall is a call of any kind, on a text of a few runes.
func someCall(rng *rand.Rand, frames [][]byte) saying {
	unit, at, to := 1+rng.Intn(4), rng.Intn(6), 1+rng.Intn(6)
	text := []string{"x", "é𝄞", "", "abxd", "q"}[rng.Intn(5)]
	mark := 1 + rng.Intn(8)
	data := frames[rng.Intn(len(frames))]
	switch rng.Intn(11) {
	case 0, 1:
		return func(e *editor.Editor) string { return fmt.Sprint(e.Type(unit, at, text)) }
	case 2:
		return func(e *editor.Editor) string { return fmt.Sprint(e.Erase(unit, at, to)) }
	case 3:
		return func(e *editor.Editor) string { return fmt.Sprint(e.SetText(text)) }
	case 4:
		return func(e *editor.Editor) string { return e.Text() }
	case 5:
		return func(e *editor.Editor) string { return fmt.Sprint(e.Spot(unit, at)) }
	case 6, 7:
		return func(e *editor.Editor) string { return fmt.Sprint(e.Mark(unit, at)) }
	case 8:
		return func(e *editor.Editor) string { return fmt.Sprint(e.Where(mark)) }
	case 9:
		return func(e *editor.Editor) string { return fmt.Sprint(e.Unmark(mark)) }
	}
	return func(e *editor.Editor) string { return fmt.Sprint(e.Receive(data)) }
}

// table is an editor that shows a few runes and has an anchor at each place, and frames for it of another site.
func table(t *testing.T) (*editor.Editor, *replica.Replica, [][]byte) {
	t.Helper()
	r, _ := replica.Found(1, keeping(api.MaxKeep))
	e := editor.Open(r)
	e.SetText("abcd")
	r.Join(2)
	out, _ := r.Draw(2)
	other, _ := replica.Idle(2, keeping(api.MaxKeep))
	out, err := other.Receive(out[0].Data)
	wantErr(t, "an image", err, api.OK)
	r.Receive(out[0].Data)
	var frames [][]byte
	for _, edit := range []func(){func() { other.Delete(1, 2) }, func() { other.Insert(1, "yz") }} {
		edit()
		out, _ := other.Draw(1)
		frames = append(frames, out[0].Data)
	}
	for at := range 5 {
		e.Mark(api.UnitRune, at)
	}
	return e, r, frames
}

// inTheEnd is all that an editor shows.
func inTheEnd(e *editor.Editor, r *replica.Replica) string {
	var s strings.Builder
	s.WriteString(e.Text())
	for mark := range 14 {
		spot, err := e.Where(mark)
		fmt.Fprint(&s, mark, spot, int(err))
	}
	fmt.Fprint(&s, r.Sight(), r.Image())
	return s.String()
}

// inSomeOrder tells whether calls of several goroutines, each of which keeps to its own order, have these answers and this end in some order of all of them.
func inSomeOrder(t *testing.T, calls [][]saying, answers [][]string, end string) bool {
	t.Helper()
	var order []int
	total := 0
	for _, l := range calls {
		total += len(l)
	}
	left := make([]int, len(calls))
	var try func() bool
	try = func() bool {
		if len(order) == total {
			return saysSo(t, calls, answers, end, order)
		}
		for k := range calls {
			if left[k] == len(calls[k]) {
				continue
			}
			left[k]++
			order = append(order, k)
			if try() {
				return true
			}
			order = order[:len(order)-1]
			left[k]--
		}
		return false
	}
	return try()
}

// saysSo tells whether the calls have these answers and this end in one order.
func saysSo(t *testing.T, calls [][]saying, answers [][]string, end string, order []int) bool {
	t.Helper()
	e, r, _ := table(t)
	next := make([]int, len(calls))
	for _, k := range order {
		if calls[k][next[k]](e) != answers[k][next[k]] {
			return false
		}
		next[k]++
	}
	return inTheEnd(e, r) == end
}

// TestGoroutinesSomeOrder: P19.11: calls of all kinds by a few goroutines at one time end as if they had come in some order: some one order of all of them gives the same answers and the same end.
func TestGoroutinesSomeOrder(t *testing.T) {
	_, _, frames := table(t)
	for seed := range rounds(300) {
		rng := rand.New(rand.NewSource(int64(seed)))
		calls := make([][]saying, 3)
		answers := make([][]string, 3)
		for k := range calls {
			for range 2 {
				calls[k] = append(calls[k], someCall(rng, frames))
			}
			answers[k] = make([]string, 2)
		}
		e, r, _ := table(t)
		atOnce(3, func(k int) {
			for i, call := range calls[k] {
				answers[k][i] = call(e)
			}
		})
		if !inSomeOrder(t, calls, answers, inTheEnd(e, r)) {
			t.Fatalf("seed %d: no order gives %q", seed, answers)
		}
	}
}

// deed is an edit that a goroutine has made, and how a site does it alone.
type deed struct {
	ops   []api.Op
	again func(r *replica.Replica) []api.Op
}

// edits is what one goroutine does and sees: its edits in their order, and the texts that it saw behind so many of them.
type edits struct {
	deeds []deed
	texts map[int][]string
}

func (d *edits) typed(at int, text string, o api.Op) {
	d.deeds = append(d.deeds, deed{[]api.Op{o}, func(r *replica.Replica) []api.Op {
		o, _ := r.Insert(at, text)
		return []api.Op{o}
	}})
}

func (d *edits) erased(from, to int, o api.Op) {
	d.deeds = append(d.deeds, deed{[]api.Op{o}, func(r *replica.Replica) []api.Op {
		o, _ := r.Delete(from, to-from)
		return []api.Op{o}
	}})
}

func (d *edits) set(text string, ops []api.Op) {
	d.deeds = append(d.deeds, deed{ops, func(r *replica.Replica) []api.Op {
		made, _ := newModel(r).setText(text)
		return made
	}})
}

// editing is what a goroutine does: many edits, with what it sees between them.
func editing(e *editor.Editor, seed int64) *edits {
	rng := rand.New(rand.NewSource(seed))
	d := &edits{texts: map[int][]string{}}
	for range 50 {
		at := rng.Intn(8)
		text := string(rune('a' + rng.Intn(26)))
		switch rng.Intn(6) {
		case 0, 1:
			if o, err := e.Type(api.UnitRune, at, text); err == api.OK {
				d.typed(at, text, o)
			}
		case 2:
			if o, err := e.Erase(api.UnitRune, at, at+2); err == api.OK {
				d.erased(at, at+2, o)
			}
		case 3:
			text = "set by" + text
			if ops, err := e.SetText(text); err == api.OK && len(ops) > 0 {
				d.set(text, ops)
			}
		case 4:
			mark, _ := e.Mark(api.UnitRune, at)
			e.Where(mark)
		default:
			n := len(d.deeds)
			d.texts[n] = append(d.texts[n], e.Text())
		}
	}
	return d
}

// TestGoroutinesLog: P19.11: the edits of many goroutines stand in the site's log, each once, those of one call together, those of one goroutine in their order; one behind the other they make the same again. Each text that was seen was there between the edits of its goroutine.
func TestGoroutinesLog(t *testing.T) {
	const many = 8
	r, _ := replica.Found(1, keeping(api.MaxKeep))
	twin, _ := replica.Found(1, keeping(api.MaxKeep))
	e := editor.Open(r)
	all := make([]*edits, many)
	atOnce(many, func(k int) { all[k] = editing(e, int64(k)) })

	done := make([]int, many)
	seenAt := func() {
		for k, d := range all {
			d.texts[done[k]] = slices.DeleteFunc(d.texts[done[k]], func(s string) bool { return s == twin.Text() })
		}
	}
	log := r.Image().Log[1:]
	for len(log) > 0 {
		seenAt()
		k := slices.IndexFunc(all, func(d *edits) bool {
			i := done[slices.Index(all, d)]
			return i < len(d.deeds) && d.deeds[i].ops[0].Dot == log[0].Dot
		})
		if k < 0 {
			t.Fatalf("%v was not answered, or out of its order", log[0].Dot)
		}
		// What was seen ahead of this one has to have been there by now.
		if left := all[k].texts[done[k]]; len(left) > 0 {
			t.Fatalf("%q was never there", left)
		}
		x := all[k].deeds[done[k]]
		made := x.again(twin)
		if len(log) < len(x.ops) || !reflect.DeepEqual(made, x.ops) || !reflect.DeepEqual(log[:len(x.ops)], x.ops) {
			t.Fatalf("%+v; alone %+v; in the log %+v", x.ops, made, log[0])
		}
		log = log[len(x.ops):]
		done[k]++
	}
	seenAt()
	for k, d := range all {
		if done[k] != len(d.deeds) || len(d.texts[done[k]]) > 0 {
			t.Errorf("%d edits of %d; never there: %q", done[k], len(d.deeds), d.texts[done[k]])
		}
	}
	if e.Text() != twin.Text() {
		t.Errorf("%q; want %q", e.Text(), twin.Text())
	}
}

// TestGoroutinesMarks: P19.5, P19.11: no number is given twice, and none is left out; each anchor is taken away once.
func TestGoroutinesMarks(t *testing.T) {
	const many, each = 8, 60
	b := found(t, config, "abc")
	marks := make([][]int, many)
	atOnce(many, func(k int) {
		for i := range each {
			mark, _ := b.e.Mark(units[i%4], k%4)
			marks[k] = append(marks[k], mark)
		}
	})
	var all []int
	for _, l := range marks {
		if !slices.IsSorted(l) {
			t.Errorf("%v is not rising", l)
		}
		all = append(all, l...)
	}
	slices.Sort(all)
	for i, mark := range all {
		if mark != i+1 {
			t.Fatalf("the anchor %d has the number %d", i+1, mark)
		}
	}
	taken := make([]int, many)
	atOnce(many, func(k int) {
		for mark := range many*each + 2 {
			if b.e.Unmark(mark) == api.OK {
				taken[k]++
			}
		}
	})
	sum := 0
	for _, n := range taken {
		sum += n
	}
	if sum != many*each {
		t.Errorf("%d were taken away", sum)
	}
	if mark, _ := b.e.Mark(api.UnitRune, 0); mark != many*each+1 {
		t.Errorf("the next anchor is %d", mark)
	}
}

// TestGoroutinesReceive: P19.11: two editors that are typed at, and hear of each other, at one time come to the same text, in which each rune stands once.
func TestGoroutinesReceive(t *testing.T) {
	wide := keeping(api.MaxKeep)
	wide.Push, wide.Hold = 200, 200
	one, _ := replica.Found(1, wide)
	one.Join(2)
	two, _ := replica.Idle(2, wide)
	sites := []*replica.Replica{one, two}
	editors := []*editor.Editor{editor.Open(one), editor.Open(two)}
	// say lets each of the two speak to the other, which must not be while others edit.
	say := func() (frames [2][]byte) {
		for k, r := range sites {
			if out, err := r.Draw(2 - k); err == api.OK {
				frames[1-k] = out[0].Data
			}
		}
		return frames
	}
	editors[1].Receive(say()[1])
	for round := range 10 {
		frames := say()
		atOnce(6, func(k int) {
			e := editors[k%2]
			for i := range 8 {
				if _, err := e.Type(api.UnitRune, 0, string(rune(0x4e00+round*100+k*10+i))); err != api.OK {
					t.Errorf("Type: error %d", int(err))
				}
				e.Mark(api.UnitRune, 1)
				if i == 4 {
					e.Receive(frames[k%2])
				}
			}
		})
	}
	for range 20 {
		for k, data := range say() {
			out, _ := editors[k].Receive(data)
			for _, x := range out {
				editors[1-k].Receive(x.Data)
			}
		}
	}
	counts := map[rune]int{}
	for _, r := range editors[0].Text() {
		counts[r]++
	}
	if editors[0].Text() != editors[1].Text() || len(counts) != 10*6*8 || one.Len() != len(counts) {
		t.Errorf("%d runes, %d of them different; %q; %q", one.Len(), len(counts), editors[0].Text(), editors[1].Text())
	}
}
