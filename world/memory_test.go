package world_test

import (
	"runtime"
	"slices"
	"strings"
	"testing"
	"unsafe"

	"hearsay/api"
	"hearsay/world"
)

// told is all that a world tells at one time: of each list two answers.
type told struct {
	answers        []api.Answer
	events, twice  []api.Event
	sites, again   []int
	issued, second []api.Op
}

// tell is what a world tells; the two worlds of both go on alike.
func (b both) tell() told {
	var l told
	for range 2 {
		for _, s := range lookRound() {
			l.answers = append(l.answers, b.w.Do(s))
			b.m.do(s)
		}
	}
	l.events, l.twice = b.w.Events(), b.w.Events()
	l.sites, l.again = b.w.Sites(), b.w.Sites()
	l.issued, l.second = b.w.Issued(), b.w.Issued()
	return l
}

// clone is the same in memory of its own.
func (l told) clone() told {
	c := told{events: slices.Clone(l.events), twice: slices.Clone(l.twice), sites: slices.Clone(l.sites), again: slices.Clone(l.again)}
	for _, a := range l.answers {
		c.answers = append(c.answers, cloneAnswer(a))
	}
	for i := range l.issued {
		c.issued = append(c.issued, cloneOp(l.issued[i]))
		c.second = append(c.second, cloneOp(l.second[i]))
	}
	return c
}

func (l told) same(o told) bool {
	return slices.EqualFunc(l.answers, o.answers, sameAnswer) && slices.Equal(l.events, o.events) && slices.Equal(l.twice, o.twice) &&
		slices.Equal(l.sites, o.sites) && slices.Equal(l.again, o.again) && slices.EqualFunc(l.issued, o.issued, sameOp) && slices.EqualFunc(l.second, o.second, sameOp)
}

// TestAnswersApart: P21.9, W6: no two answers share anything, no two lists of one answer do, and none shares anything with what is kept; nor does what was answered go on with the world.
func TestAnswersApart(t *testing.T) {
	b := rich(t)
	l := b.tell()
	was := l.clone()
	b.wantAll(t)
	// Each list is spoilt with its room; all others stay as they were.
	try := func(about string, spoiling func(told), mend func(told)) {
		t.Helper()
		spoiling(l)
		mend(l)
		if !l.same(was) {
			t.Fatalf("%s: another answer changed", about)
		}
		b.wantAll(t)
	}
	for i := range was.answers {
		a := was.answers[i]
		for k := range a.Copies {
			try("bytes", func(l told) { spoil(l.answers[i].Copies[k].Data, 0xdd) }, func(l told) { l.answers[i].Copies[k].Data = a.Copies[k].Data })
		}
		for k := range a.Sight.Peers {
			try("row", func(l told) { spoil(l.answers[i].Sight.Peers[k].Row, api.Dot{Site: -7}) }, func(l told) { l.answers[i].Sight.Peers[k].Row = a.Sight.Peers[k].Row })
			try("usable", func(l told) { spoil(l.answers[i].Sight.Peers[k].Usable, api.Dot{Site: -7}) }, func(l told) { l.answers[i].Sight.Peers[k].Usable = a.Sight.Peers[k].Usable })
			try("flight", func(l told) { spoil(l.answers[i].Sight.Peers[k].Flight, -7) }, func(l told) { l.answers[i].Sight.Peers[k].Flight = a.Sight.Peers[k].Flight })
		}
		try("answer", func(l told) { spoilAnswer(l.answers[i]) }, func(l told) { l.answers[i] = a })
	}
	for i := range was.issued {
		try("an operation", func(l told) { spoil(l.issued[i].Deps, api.Dot{Site: -7}) }, func(l told) { l.issued[i].Deps = was.issued[i].Deps })
		try("an operation", func(l told) { spoil(l.issued[i].Gone, api.Run{Count: -7}) }, func(l told) { l.issued[i].Gone = was.issued[i].Gone })
	}
	try("events", func(l told) { spoil(l.events, api.Event{Step: -7}) }, func(l told) { copy(l.events, was.events) })
	try("sites", func(l told) { spoil(l.sites, -7) }, func(l told) { copy(l.sites, was.sites) })
	try("issued", func(l told) { spoil(l.issued, api.Op{Kind: -7}) }, func(l told) { copy(l.issued, was.issued) })

	// What was answered stays as it was, whatever comes; what is laid behind the end of an answer is nowhere to be seen.
	l = b.tell()
	was = l.clone()
	spoil(append(l.events, api.Event{}), api.Event{Step: -7})
	l.events = was.events
	for range 5 {
		b.must(t, insert(1, 0, "on"), api.OK)
		b.must(t, remove(2, 0, 1), api.OK)
		b.must(t, tick(0, 1, 2, 0), api.OK)
		for _, x := range b.m.copies() {
			b.do(t, deliver(x.Num))
		}
	}
	b.must(t, join(12, 1), api.OK)
	b.must(t, stop(3), api.OK)
	if !l.same(was) {
		t.Error("an earlier answer changed")
	}
	b.wantAll(t)
}

// TestEditsApart: P21.9, W6: an operation that is answered shares nothing with what was issued, with what the site keeps, nor with what was handed in, its text too.
func TestEditsApart(t *testing.T) {
	b := joined(t, c, 2)
	given := strings.Repeat("text", 4)
	var ops []api.Op
	for _, s := range []api.Step{insert(1, 0, given[2:9]), remove(1, 1, 3), join(3, 1), insert(1, 4, "!"), leave(1)} {
		ops = append(ops, b.w.Do(s).Op)
		b.m.do(s)
	}
	var was []api.Op
	for _, o := range ops {
		was = append(was, cloneOp(o))
	}
	issued := b.w.Issued()
	texts := []string{given[2:9], ops[0].Text, issued[len(issued)-5].Text, b.w.Issued()[len(issued)-5].Text}
	for i, s := range texts {
		for _, other := range texts[:i] {
			if s != other || unsafe.StringData(s) == unsafe.StringData(other) {
				t.Errorf("two texts are one: %q, %q", s, other)
			}
		}
	}
	for i := range ops {
		spoilOp(ops[i])
		for k := range ops {
			if k > i && !sameOp(ops[k], was[k]) {
				t.Errorf("%d shares with %d", k, i)
			}
		}
		b.wantAll(t)
	}
	b.must(t, tick(), api.OK)
	for _, x := range b.m.copies() {
		b.must(t, deliver(x.Num), api.OK)
	}
	b.wantAll(t)
}

// TestGivenApart: P21.9, W6: one array as the bytes and one as the draws of many steps, changed behind each.
func TestGivenApart(t *testing.T) {
	b := joined(t, c, 4)
	b.must(t, tick(), api.OK)
	under := b.m.underWay()
	data, draws := []byte("\xf0\xf1\xf2\xf3"), []int{2, 1, 0, 2}
	for i, n := range under {
		s := api.Step{Kind: api.StepAlter, N: n, At: 4 + i, Data: data[:1+i%4]}
		want := s
		want.Data = slices.Clone(s.Data)
		wantErr(t, "Alter", b.w.Do(s).Err, api.OK)
		wantErr(t, "Alter", b.m.do(want).Err, api.OK)
		was := slices.Clone(data)
		b.wantAll(t)
		if !slices.Equal(data, was) {
			t.Fatalf("what was handed in is now %x", data)
		}
		for k := range data {
			data[k]++
		}
		b.wantAll(t)
	}
	for range 5 {
		was := slices.Clone(draws)
		wantErr(t, "Tick", b.w.Do(tick(draws[:3]...)).Err, api.OK)
		b.m.do(tick(was[:3]...))
		if !slices.Equal(draws, was) {
			t.Fatalf("what was handed in is now %v", draws)
		}
		for k := range draws {
			draws[k] += k - 5
		}
		b.wantAll(t)
	}
}

// inUse is how many bytes are held on to.
func inUse() int {
	var m runtime.MemStats
	runtime.GC()
	runtime.GC()
	runtime.ReadMemStats(&m)
	return int(m.HeapAlloc)
}

// wantLittle wants that hardly more is held on to than before.
func wantLittle(t *testing.T, about string, before, most int) {
	t.Helper()
	if n := inUse() - before; n > most {
		t.Errorf("%s: %d bytes are kept", about, n)
	}
}

// TestNotKept: P21.9: nothing of what is handed in is held on to, nor of what is refused.
func TestNotKept(t *testing.T) {
	w, err := world.New(c)
	wantErr(t, "New", err, api.OK)
	w.Do(join(2, 1))
	w.Do(tick())
	w.Do(deliver(1))
	before := inUse()
	for i := range 60 {
		long := strings.Repeat("x", 1<<18)
		s := api.Step{Kind: api.StepInsert, Site: 1, Text: long[:1], Draws: make([]int, 1<<15), Data: make([]byte, 4, 1<<18)}
		w.Do(s)
		s.Kind, s.Text = api.StepInsert, long
		w.Do(s)
		s.Kind = api.StepTick
		w.Do(s)
		s.Kind, s.N = api.StepAlter, 2+i
		w.Do(s)
		s.Kind = 99
		w.Do(s)
	}
	wantLittle(t, "what was handed in", before, 1<<20)
	runtime.KeepAlive(w)
}

// TestKeepsLittle: P21.2: of a site that is stopped, and of copies that came and went, nothing is held on to but what is told of them.
func TestKeepsLittle(t *testing.T) {
	w, err := world.New(c)
	wantErr(t, "New", err, api.OK)
	w.Do(join(2, 1))
	long := strings.Repeat("x", 1024)
	for range 20 {
		wantErr(t, "Insert", w.Do(insert(1, 0, long)).Err, api.OK)
	}
	w.Do(tick())
	before := inUse()
	for n := 2; n < 62; n++ {
		w.Do(double(1))
		w.Do([]api.Step{alter(n, 9, "zzzz"), cut(n, 1<<16)}[n/2%2])
		if c := w.Do([]api.Step{drop(n), deliver(n)}[n%2]).Copies; len(c) != 1 || len(c[0].Data) < 1<<16 {
			t.Fatalf("%d: %d copies", n, len(c))
		}
	}
	wantErr(t, "Drop", w.Do(drop(1)).Err, api.OK)
	wantLittle(t, "copies that came and went", before, 1<<16)
	all := inUse()
	w.Do(stop(1))
	if n := all - inUse(); n < 1<<19 {
		t.Errorf("%d bytes went with a site of 20480 runes", n)
	}
	runtime.KeepAlive(w)
}
