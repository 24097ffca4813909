package script_test

import (
	"math"
	"reflect"
	"strings"
	"testing"

	"hearsay/api"
	"hearsay/quote"
	"hearsay/script"
)

// edges is numbers about the ends of what numbers can be, and such whose low bits are those of others.
var edges = []int{
	math.MinInt, math.MinInt + 1, -1<<32 - 1, -1 << 31, -257, -100, -10, -9, -2, -1, 0, 1, 2, 3, 9, 10, 14, 15, 16, 17, 99, 100, 101, 255, 256, 257,
	1<<31 - 1, 1 << 31, 1 << 32, 1<<32 + 1, 1<<32 + 14, 1<<53 + 1, math.MaxInt - 1, math.MaxInt,
}

// plain is the same without what W5 holds for one: a list without an element is nil in it.
func plain[T any](x T) T {
	v := reflect.New(reflect.TypeFor[T]()).Elem()
	v.Set(copied(reflect.ValueOf(x)))
	return v.Interface().(T)
}

// copied is a value with lists of its own, nil ones where there is no element.
func copied(x reflect.Value) reflect.Value {
	v := reflect.New(x.Type()).Elem()
	switch x.Kind() {
	case reflect.Struct:
		for i := range x.NumField() {
			v.Field(i).Set(copied(x.Field(i)))
		}
	case reflect.Slice:
		for i := range x.Len() {
			v.Set(reflect.Append(v, copied(x.Index(i))))
		}
	default:
		v.Set(x)
	}
	return v
}

// same tells whether two are alike.
func same[T any](a, b T) bool { return reflect.DeepEqual(plain(a), plain(b)) }

// bare is a step with what its kind has alone.
func bare(s api.Step) api.Step {
	b := api.Step{Kind: s.Kind}
	for _, name := range fields(s.Kind) {
		reflect.ValueOf(&b).Elem().FieldByName(name).Set(reflect.ValueOf(s).FieldByName(name))
	}
	return b
}

// wantRead holds a script against the steps that it must be read as.
func wantRead(t *testing.T, text string, want ...api.Step) {
	t.Helper()
	if got, line, err := script.Parse(text); !same(got, want) || line != 0 || err != api.OK {
		t.Errorf("Parse(%+q): %+v, %d, %d; want %+v", text, got, line, int(err), want)
	}
	both(t, text)
}

// wantOffends holds a script against the line that offends, and the error.
func wantOffends(t *testing.T, text string, line int, err api.Errno) {
	t.Helper()
	if got, n, e := script.Parse(text); len(got) != 0 || n != line || e != err {
		t.Errorf("Parse(%+q): %+v, %d, %d; want none, %d, %d", text, got, n, int(e), line, int(err))
	}
	both(t, text)
}

// both reads a script both ways, and once more.
func both(t *testing.T, text string) ([]api.Step, api.Errno) {
	t.Helper()
	got, line, err := script.Parse(text)
	want, wantLine, wantErr := wantParse(text)
	if !same(got, want) || line != wantLine || err != wantErr {
		t.Fatalf("Parse(%+q): %+v, %d, %d; want %+v, %d, %d", text, got, line, int(err), want, wantLine, int(wantErr))
	}
	if again, l, e := script.Parse(text); !same(again, got) || l != line || e != err {
		t.Fatalf("Parse(%+q): %+v, %d, %d; another time %+v, %d, %d", text, got, line, int(err), again, l, int(e))
	}
	return got, err
}

// wantPrinted holds the text of steps against what it must be.
func wantPrinted(t *testing.T, want string, steps ...api.Step) {
	t.Helper()
	if got, err := script.Print(steps); got != want || err != api.OK {
		t.Errorf("Print(%+v): %+q, %d; want %+q", steps, got, int(err), want)
	}
	bothPrint(t, steps)
}

// bothPrint prints steps both ways, and once more.
func bothPrint(t *testing.T, steps []api.Step) (string, api.Errno) {
	t.Helper()
	got, err := script.Print(steps)
	if want, wantErr := wantPrint(steps); got != want || err != wantErr {
		t.Fatalf("Print(%+v): %+q, %d; want %+q, %d", steps, got, int(err), want, int(wantErr))
	}
	if again, e := script.Print(steps); again != got || e != err {
		t.Fatalf("Print(%+v): %+q, %d; another time %+q, %d", steps, got, int(err), again, int(e))
	}
	return got, err
}

// wantTold holds what is told of a step and its answer against what it must be.
func wantTold(t *testing.T, s api.Step, a api.Answer, want string) {
	t.Helper()
	if got := script.Tell(s, a); got != want {
		t.Errorf("Tell(%+v, %+v): %+q; want %+q", s, a, got, want)
	}
	bothTell(t, s, a)
}

// bothTell tells a step and its answer both ways, once more, and is told again what they were.
func bothTell(t *testing.T, s api.Step, a api.Answer) string {
	t.Helper()
	got := script.Tell(s, a)
	if want := wantTell(s, a); got != want {
		t.Fatalf("Tell(%+v, %+v): %+q; want %+q", s, a, got, want)
	}
	if again := script.Tell(s, a); again != got {
		t.Fatalf("Tell(%+v, %+v): %+q; another time %+q", s, a, got, again)
	}
	step, answer := hear(t, got)
	if wantStep, wantAnswer := named(s, a); !same(step, wantStep) || !same(answer, wantAnswer) {
		t.Fatalf("%+q says %+v, %+v; it was told of %+v, %+v", got, step, answer, wantStep, wantAnswer)
	}
	return got
}

// named is a step and its answer with what is told of them alone.
func named(s api.Step, a api.Answer) (api.Step, api.Answer) {
	if has(s.Kind) {
		s = bare(s)
	} else {
		s = api.Step{Kind: s.Kind}
	}
	if s.Kind != api.StepText || a.Err != api.OK {
		a.Text = ""
	}
	o := api.Op{Dot: a.Op.Dot, Deps: a.Op.Deps, Kind: a.Op.Kind}
	switch o.Kind {
	case 0:
		o = api.Op{}
	case api.OpInsert:
		o.ID, o.Ref, o.Text = a.Op.ID, a.Op.Ref, a.Op.Text
	case api.OpDelete:
		o.Gone = a.Op.Gone
	case api.OpJoin:
		o.Site = a.Op.Site
	}
	a.Op = o
	if a.Sight.Site == 0 {
		a.Sight = api.Sight{}
	}
	return s, a
}

// listener takes what was told back, word by word.
type listener struct {
	t     *testing.T
	told  string
	words []api.Word
}

// is tells whether a word comes next, and takes it.
func (l *listener) is(word string) bool {
	if len(l.words) == 0 || l.words[0].Kind != api.WordPlain || l.words[0].Text != word {
		return false
	}
	l.words = l.words[1:]
	return true
}

// next takes a word of a kind, which has to come.
func (l *listener) next(kind int) api.Word {
	l.t.Helper()
	if len(l.words) == 0 || l.words[0].Kind != kind {
		l.t.Fatalf("%+q: of the kind %d nothing comes; %+v does", l.told, kind, l.words)
	}
	w := l.words[0]
	l.words = l.words[1:]
	return w
}

func (l *listener) number() int { return l.next(api.WordNumber).Num }

// behind takes a number with its name ahead of it.
func (l *listener) behind(name string) int {
	l.t.Helper()
	if !l.is(name) {
		l.t.Fatalf("%+q: no %s comes; %+v does", l.told, name, l.words)
	}
	return l.number()
}

// hearAll takes as many as there are, each made of numbers.
func hearAll[T any](l *listener, one func() T) []T {
	var list []T
	for len(l.words) > 0 && l.words[0].Kind == api.WordNumber {
		list = append(list, one())
	}
	return list
}

func (l *listener) dot() api.Dot { return api.Dot{Site: l.number(), Seq: l.number()} }

func (l *listener) id() api.ID { return api.ID{Time: l.number(), Site: l.number()} }

func (l *listener) run() api.Run { return api.Run{ID: l.id(), Count: l.number()} }

// hear is the step and the answer that a text of Tell's was made of.
func hear(t *testing.T, told string) (api.Step, api.Answer) {
	t.Helper()
	var s api.Step
	var a api.Answer
	first := true
	for line := range strings.Lines(told) {
		l := &listener{t: t, told: told}
		for w, err := range quote.Scan(line) {
			if err != api.OK {
				t.Fatalf("%+q: error %d", line, int(err))
			}
			if w.Kind != api.WordEnd {
				l.words = append(l.words, w)
			}
		}
		if first {
			s = l.step(line)
		} else {
			l.answer(&a)
		}
		first = false
		if len(l.words) > 0 {
			t.Fatalf("%+q: %+v is too much", line, l.words)
		}
	}
	return s, a
}

// step takes a step's line.
func (l *listener) step(line string) api.Step {
	l.t.Helper()
	if l.is("step") {
		return api.Step{Kind: l.number()}
	}
	steps, _, err := script.Parse(line)
	if err != api.OK || len(steps) != 1 {
		l.t.Fatalf("%+q: %+v, %d", line, steps, int(err))
	}
	l.words = nil
	return steps[0]
}

// answer takes a line of an answer.
func (l *listener) answer(a *api.Answer) {
	l.t.Helper()
	lastPeer := func() *api.PeerSight { return &a.Sight.Peers[len(a.Sight.Peers)-1] }
	switch {
	case l.is("error"):
		a.Err = api.Errno(l.number())
	case l.is("text"):
		a.Text = l.next(api.WordQuoted).Text
	case l.is("op"):
		a.Op = l.op()
	case l.is("site"):
		a.Sight = api.Sight{
			Site: l.number(), Active: l.is("active"), Leaving: l.is("leaving"),
			Clock: l.behind("clock"), Tick: l.behind("tick"), Log: l.behind("log"), Kept: l.behind("kept"), Epoch: l.behind("epoch"),
		}
	case l.is("vector"):
		a.Sight.Vector = hearAll(l, l.dot)
	case l.is("base"):
		a.Sight.Base = hearAll(l, l.dot)
	case l.is("held"):
		a.Sight.Held = hearAll(l, l.dot)
	case l.is("members"):
		a.Sight.Members = hearAll(l, l.number)
	case l.is("peer"):
		a.Sight.Peers = append(a.Sight.Peers, api.PeerSight{
			Peer: l.number(), Heard: l.is("heard"), Got: l.behind("got"), Credit: l.behind("credit"), Gap: l.behind("gap"), Due: l.behind("due"),
		})
	case l.is("row"):
		lastPeer().Row = hearAll(l, l.dot)
	case l.is("usable"):
		lastPeer().Usable = hearAll(l, l.dot)
	case l.is("flight"):
		lastPeer().Flight = hearAll(l, l.number)
	case l.is("copy"):
		a.Copies = append(a.Copies, api.Copy{
			Num: l.number(), From: l.behind("from"), To: l.behind("to"), Sent: l.behind("sent"), Bad: l.is("bad"), Data: []byte(l.next(api.WordQuoted).Text),
		})
	}
}

// op takes an operation, behind its first word.
func (l *listener) op() api.Op {
	l.t.Helper()
	o := api.Op{Dot: l.dot()}
	if !l.is("after") {
		l.t.Fatalf("%+q: %+v", l.told, l.words)
	}
	o.Deps = hearAll(l, l.dot)
	switch {
	case l.is("insert"):
		o.Kind, o.ID = api.OpInsert, l.id()
		if l.is("behind") {
			o.Ref = l.id()
		}
		o.Text = l.next(api.WordQuoted).Text
	case l.is("delete"):
		o.Kind, o.Gone = api.OpDelete, hearAll(l, l.run)
	case l.is("join"):
		o.Kind, o.Site = api.OpJoin, l.number()
	case l.is("leave"):
		o.Kind = api.OpLeave
	default:
		o.Kind = l.behind("kind")
	}
	return o
}
