package causal_test

import (
	"runtime"
	"slices"
	"strings"
	"testing"
	"unsafe"

	"hearsay/api"
	"hearsay/causal"
)

// TestAnswersApart: P13.9, W6: no two answers share anything, and none shares anything with what the queue keeps, the lists of each operation too.
func TestAnswersApart(t *testing.T) {
	b := richQueue(t)
	waits, vectors := [][]api.Dot{b.queue.Waits(), b.queue.Waits()}, []api.Vector{b.queue.Vector(), b.queue.Vector()}
	spoil(waits[0], junkDot)
	spoil(vectors[0], junkDot)
	wantDots(t, "a second list of those that wait", waits[1], vec(1, 3, 2, 5, 9, 1, 16, 3))
	wantDots(t, "a second vector", vectors[1], vec(1, 2, 2, 4, 16, 1))
	wantQueue(t, b)
	b.must(t, rich()[2])
	wantDots(t, "an earlier list of those that wait", waits[1], vec(1, 3, 2, 5, 9, 1, 16, 3))
	wantDots(t, "an earlier vector", vectors[1], vec(1, 2, 2, 4, 16, 1))

	// All of them at hand, of which one after the other is changed.
	var came []api.Op
	for o, ok := b.queue.Take(); ok; o, ok = b.queue.Take() {
		came = append(came, o)
	}
	want := b.model.came[1:]
	wantOps(t, "Take", came, want)
	for i := range came {
		spoilOp(came[i])
		wantOps(t, "the others that came", came[i+1:], want[i+1:])
	}
	wantDots(t, "Vector", b.queue.Vector(), vec(1, 3, 2, 5, 9, 1, 16, 3))
}

// TestGivenApart: P13.9, W6: what was handed in has nothing to do with what is kept or comes: one vector for two queues, one operation for two queues, parts of one list as the Deps of two operations, and an operation that is turned and offered again.
func TestGivenApart(t *testing.T) {
	v := vec(1, 5, 3, 2)
	one, _ := causal.New(2, v)
	two, _ := causal.New(2, v)
	clear(v)
	clear(one.Vector())
	for _, q := range []*causal.Queue{one, two} {
		wantDots(t, "Vector", q.Vector(), vec(1, 5, 3, 2))
	}
	deps := vec(1, 6, 3, 3)
	first, second := api.Op{Kind: api.OpLeave, Dot: dot(1, 7), Deps: deps[:1]}, api.Op{Kind: api.OpLeave, Dot: dot(3, 4), Deps: deps}
	now := leave(1, 6, 1, 5)
	for _, q := range []*causal.Queue{one, two} {
		for _, o := range []api.Op{second, first, now} {
			if _, err := q.Offer(o); err != api.OK {
				t.Errorf("%+v: %d", o, int(err))
			}
		}
	}
	clear(deps)
	clear(now.Deps)
	// Those that are there already, wait at last, are dropped or refused leave nothing behind either.
	for i, o := range []api.Op{leave(1, 7, 1, 6), leave(9, 80, 9, 79), leave(2, 1, 4, 90), leave(2, 7, 2, 3)} {
		became, _ := one.Offer(o)
		wantInt(t, o, became, []int{causal.Had, causal.Held, causal.Dropped, 0}[i])
		clear(o.Deps)
	}
	third := leave(3, 3, 3, 2)
	for _, q := range []*causal.Queue{one, two} {
		became, _ := q.Offer(third)
		wantInt(t, "what sets one free", became, causal.Taken)
	}
	clear(third.Deps)
	want := []api.Op{leave(1, 6, 1, 5), leave(1, 7, 1, 6), leave(3, 3, 3, 2), leave(3, 4, 1, 6, 3, 3)}
	for _, q := range []*causal.Queue{one, two} {
		for _, w := range want {
			o, ok := q.Take()
			if !ok || !same(o, w) {
				t.Errorf("Take: %+v, %v; want %+v", o, ok, w)
			}
			spoilOp(o)
		}
	}
}

// TestTexts: P13.9, W6: the bytes of a Text are new where they come in, delivered at once or not, for two queues too.
func TestTexts(t *testing.T) {
	given := strings.Repeat("hé", 9)
	texts := []string{given}
	for range 2 {
		q, _ := causal.New(1, nil)
		for _, o := range []api.Op{{Kind: api.OpInsert, Dot: dot(2, 1), Deps: vec(1, 1), ID: id(1, 2), Text: given}, {Kind: api.OpInsert, Dot: dot(1, 1), ID: id(1, 1), Text: given}} {
			_, err := q.Offer(o)
			wantErr(t, o, err, api.OK)
		}
		for range 2 {
			o, _ := q.Take()
			texts = append(texts, o.Text)
		}
	}
	for i, s := range texts {
		if s != given {
			t.Errorf("%d: %q", i, s)
		}
		for k, other := range texts[:i] {
			if unsafe.StringData(s) == unsafe.StringData(other) {
				t.Errorf("the texts %d and %d are one", k, i)
			}
		}
	}
}

// inUse is how many bytes are held on to.
func inUse() int {
	var m runtime.MemStats
	runtime.GC()
	runtime.ReadMemStats(&m)
	return int(m.HeapAlloc)
}

const mega = 1 << 20

// big is an operation with 24 kilobytes of its own, which waits for the one ahead of it.
func big(site, seq int) api.Op {
	gone := make([]api.Run, api.MaxGone)
	for i := range gone {
		gone[i] = run(1+2*i, 1, 1)
	}
	deps := vec(site, seq-1)
	return api.Op{Kind: api.OpDelete, Dot: dot(site, seq), Deps: slices.DeleteFunc(deps, func(d api.Dot) bool { return d.Seq == 0 }), Gone: gone}
}

// TestNotKept: P13.9, W6: a queue does not hold on to what was handed in, not even where a list was empty, or its operation was refused, there already, or dropped.
func TestNotKept(t *testing.T) {
	q, _ := causal.New(100, append(make(api.Vector, 0, 1<<18), dot(3, 3)))
	before := inUse()
	roomyLeave := func(site, seq int, deps ...int) {
		o := leave(site, seq)
		o.Deps = append(make(api.Vector, 0, 4000), vec(deps...)...)
		o.Gone = make([]api.Run, 0, 4000)
		q.Offer(o)
	}
	for i := 100; i > 0; i-- {
		roomyLeave(1, i+1, 1, i)
		roomyLeave(2, 1)
		roomyLeave(1, i+1, 1, i)
		roomyLeave(16, 1000+i, 16, 999+i)
		roomyLeave(1, i+1)
	}
	if all := inUse() - before; all > 2*mega {
		t.Errorf("%d bytes are kept", all)
	}
	wantInt(t, "Free", q.Free(), 0)
	roomyLeave(1, 1)
	if all := inUse() - before; all > 2*mega {
		t.Errorf("%d bytes are kept", all)
	}
	wantInt(t, "Free", q.Free(), 100)
	wantDots(t, "Vector", q.Vector(), vec(1, 101, 2, 1, 3, 3))
}

// TestLetGo: P13.2, P13.3: what was dropped or taken a queue does not hold on to, wherever it stood.
func TestLetGo(t *testing.T) {
	const half, whole = 3 * mega, 6 * mega
	q, _ := causal.New(api.MaxHold, nil)
	before := inUse()
	wantBetween := func(what string, least, most int) {
		t.Helper()
		if n := inUse() - before; n < least || n > most {
			t.Errorf("%s: %d bytes are kept", what, n)
		}
	}
	for seq := 2; seq <= api.MaxHold+1; seq++ {
		q.Offer(big(1, seq))
	}
	wantBetween("all wait", whole-mega/2, whole+2*mega)
	for seq := 1000; seq < 1100; seq++ {
		q.Offer(big(3, seq))
	}
	wantBetween("farther ones are dropped", whole-mega/2, whole+2*mega)
	for seq := 2; seq <= api.MaxHold/2+1; seq++ {
		if became, _ := q.Offer(leave(2, seq, 2, seq-1)); became != causal.Held {
			t.Errorf("%d", became)
		}
	}
	wantBetween("half of them are dropped for nearer ones", half-mega/2, half+mega)
	q.Offer(big(1, 1))
	q.Offer(leave(2, 1))
	wantInt(t, "Free", q.Free(), api.MaxHold)
	wantBetween("what is left was delivered", half-mega/2, half+mega)
	for range api.MaxHold / 4 {
		q.Take()
	}
	wantBetween("half of that is taken", half/2-mega/2, half/2+mega)
	for _, ok := q.Take(); ok; _, ok = q.Take() {
	}
	wantBetween("all is taken", -mega, mega/2)
	wantDots(t, "Vector", q.Vector(), vec(1, 129, 2, 129))
	runtime.KeepAlive(q)
}

// TestLetGoBackwards: P13.2, P13.3: the same of those that were offered backwards, so that the last one that waits is the first one to go.
func TestLetGoBackwards(t *testing.T) {
	q, _ := causal.New(api.MaxHold, nil)
	before := inUse()
	for seq := api.MaxHold + 1; seq > 0; seq-- {
		q.Offer(big(1, seq))
	}
	if n := inUse() - before; n < 5*mega || n > 8*mega {
		t.Errorf("all were delivered: %d bytes are kept", n)
	}
	for _, ok := q.Take(); ok; _, ok = q.Take() {
	}
	if n := inUse() - before; n > mega/2 {
		t.Errorf("all is taken: %d bytes are kept", n)
	}
	wantDots(t, "Vector", q.Vector(), vec(1, api.MaxHold+1))
	runtime.KeepAlive(q)
}
