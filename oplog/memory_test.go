package oplog_test

import (
	"iter"
	"runtime"
	"slices"
	"strings"
	"testing"
	"unsafe"

	"hearsay/api"
	"hearsay/oplog"
)

// some is the first operations, one at least, that an iterator hands on, which is told to stop then.
func some(ops iter.Seq[api.Op], n int) []api.Op {
	var l []api.Op
	for o := range ops {
		l = append(l, clone(o))
		spoilOp(o)
		if len(l) >= n {
			break
		}
	}
	return l
}

// TestStop: W1, W7: told to stop at each place, an iterator hands on nothing more, and begins anew the next time.
func TestStop(t *testing.T) {
	b := richLog(t)
	for _, have := range []api.Vector{nil, richBase(), vec(1, 2), vec(16, 3), vec(1, 9, 2, 9, 9, 9, 16, 9), vec(0, 1)} {
		it, want := b.log.Beyond(have), b.model.beyond(have)
		for n := range len(want) + 2 {
			calls := 0
			it(func(api.Op) bool {
				calls++
				return calls < n
			})
			if calls != min(max(n, 1), len(want)) {
				t.Errorf("Beyond(%v), told to stop at %d: %d", have, n, calls)
			}
			if n > 0 {
				wantOps(t, "what comes ahead of the stop", some(it, n), want[:min(n, len(want))])
			}
			wantOps(t, "behind a stop", through(it), want)
		}
	}
	wantLog(t, b)
}

// TestNested: W7: one iterator within itself, and two of one log within one another.
func TestNested(t *testing.T) {
	b := richLog(t)
	one, two := b.log.Beyond(nil), b.log.Beyond(vec(1, 2, 16, 2))
	for _, it := range []iter.Seq[api.Op]{one, two} {
		at := 0
		for o := range one {
			wantOps(t, "outside", []api.Op{o}, rich()[at:at+1])
			at++
			inner := through(it)
			for range it {
				wantOps(t, "within", some(it, 2), inner[:2])
			}
			spoilOp(o)
		}
		if at != len(rich()) {
			t.Errorf("%d", at)
		}
	}
	wantOps(t, "afterwards", through(one), rich())
	wantOps(t, "afterwards", through(two), b.model.beyond(vec(1, 2, 16, 2)))
	// By two that are asked in turns.
	next, stop := iter.Pull(one)
	other, stopOther := iter.Pull(one)
	defer stop()
	defer stopOther()
	for i := range rich() {
		a, okA := next()
		spoilOp(a)
		c, okC := other()
		if !okA || !okC || !same(c, rich()[i]) {
			t.Errorf("%d: %+v, %v", i, c, okC)
		}
	}
}

// TestMeanwhile: W7: an iterator goes through what there was, whatever comes between: ahead of it, in its midst, and at each place.
func TestMeanwhile(t *testing.T) {
	for at := range len(rich()) + 1 {
		for _, upto := range []api.Vector{nil, vec(1, 1), vec(16, 3), vec(2, 5), vec(1, 2, 9, 1), vec(1, 3, 2, 5, 9, 1, 16, 3)} {
			b := richLog(t)
			all, later := b.log.Beyond(nil), b.log.Beyond(vec(1, 2))
			wantLater := b.model.beyond(vec(1, 2))
			meddle := func() {
				b.cut(t, upto)
				wantErr(t, "Add", b.add(t, made(api.OpDelete, 1, 4, 1, 3, 2, 5)), api.OK)
				wantErr(t, "Add", b.add(t, made(api.OpInsert, 3, 1, 1, 4)), api.OK)
				wantErr(t, "Add", b.add(t, made(api.OpInsert, 3, 1, 1, 4)), api.ErrOrder)
				b.cut(t, vec(1, 4))
				b.cut(t, vec(0, 1))
			}
			if at == len(rich()) {
				meddle()
			}
			var got []api.Op
			for o := range all {
				if len(got) == at {
					meddle()
				}
				got = append(got, clone(o))
				spoilOp(o)
			}
			wantOps(t, "in its midst", got, rich())
			wantOps(t, "afterwards", through(all), rich())
			wantOps(t, "afterwards", through(later), wantLater)
			wantLog(t, b)
			wantEvery(t, b)
			if t.Failed() {
				return
			}
		}
	}
}

// TestAnswersApart: P12.9, W6: no two answers share anything, and none shares anything with what the log keeps, the lists of each operation too; changed while others are looked at.
func TestAnswersApart(t *testing.T) {
	b := richLog(t)
	early := b.log.Beyond(nil)
	first, second := slices.Collect(early), slices.Collect(early)
	third := slices.Collect(b.log.Beyond(nil))
	bases, vectors := []api.Vector{b.log.Base(), b.log.Base()}, []api.Vector{b.log.Vector(), b.log.Vector()}
	gone, err := b.log.Cut(vec(1, 2, 2, 5))
	wantErr(t, "Cut", err, api.OK)
	b.model.cut(vec(1, 2, 2, 5))
	want := []api.Op{rich()[0], rich()[1], rich()[3], rich()[5]}
	wantOps(t, "Cut", gone, want)

	opsOf(first)
	wantOps(t, "a second answer", second, rich())
	wantOps(t, "a third answer", third, rich())
	opsOf(third)
	wantOps(t, "Cut", gone, want)
	// What was cut off stands in an iterator that was made earlier still.
	opsOf(gone)
	wantOps(t, "an earlier iterator", through(early), rich())
	wantOps(t, "a second answer", second, rich())
	for i := range second {
		// Within one answer each list stands alone.
		spoilOp(second[i])
		wantOps(t, "the others of one answer", second[i+1:], rich()[i+1:])
	}
	spoil(bases[0], junkDot)
	spoil(vectors[0], junkDot)
	wantVector(t, "a second base", bases[1], richBase())
	wantVector(t, "a second vector", vectors[1], vec(1, 3, 2, 5, 9, 1, 16, 3))
	wantLog(t, b)
	wantErr(t, "Add", b.add(t, leave(1, 4, 1, 3)), api.OK)
	wantLog(t, b)
	wantVector(t, "an earlier base", bases[1], richBase())
	wantVector(t, "an earlier vector", vectors[1], vec(1, 3, 2, 5, 9, 1, 16, 3))
}

// TestBaseApart: W6: a base that was handed in, and one that is answered, have nothing to do with the log's vector, nor with each other.
func TestBaseApart(t *testing.T) {
	given := vec(1, 5, 3, 2)
	l, _ := oplog.New(given)
	other, _ := oplog.New(given)
	clear(given)
	clear(l.Base())
	clear(l.Vector())
	for _, log := range []*oplog.Log{l, other} {
		wantVector(t, "Base", log.Base(), vec(1, 5, 3, 2))
		wantVector(t, "Vector", log.Vector(), vec(1, 5, 3, 2))
	}
	upto := vec(1, 5)
	l.Cut(upto)
	clear(upto)
	wantVector(t, "Base", l.Base(), vec(1, 5, 3, 2))
	// One operation twice, in two logs, and parts of one list as Deps of two operations.
	deps := vec(1, 5, 3, 2)
	o, second := api.Op{Kind: api.OpLeave, Dot: dot(1, 6), Deps: deps[:1]}, api.Op{Kind: api.OpLeave, Dot: dot(3, 3), Deps: deps}
	for _, log := range []*oplog.Log{l, other} {
		wantErr(t, "Add", log.Add(o), api.OK)
		wantErr(t, "Add", log.Add(second), api.OK)
	}
	clear(deps)
	opsOf(slices.Collect(l.Beyond(nil)))
	for _, log := range []*oplog.Log{l, other} {
		wantOps(t, "Beyond", slices.Collect(log.Beyond(nil)), []api.Op{leave(1, 6, 1, 5), leave(3, 3, 1, 5, 3, 2)})
	}
}

// TestTexts: P12.9, W6: the bytes of a Text are new wherever they come in or go out.
func TestTexts(t *testing.T) {
	given := strings.Repeat("hé", 9)
	l := &oplog.Log{}
	wantErr(t, "Add", l.Add(api.Op{Kind: api.OpInsert, Dot: dot(1, 1), ID: id(1, 1), Text: given}), api.OK)
	it := l.Beyond(nil)
	texts := []string{given, slices.Collect(it)[0].Text, slices.Collect(it)[0].Text, slices.Collect(l.Beyond(nil))[0].Text}
	gone, _ := l.Cut(vec(1, 1))
	texts = append(texts, gone[0].Text, slices.Collect(it)[0].Text)
	for i, s := range texts {
		if s != given {
			t.Errorf("%d: %q", i, s)
		}
		for k, other := range texts[:i] {
			if unsafe.StringData(s) == unsafe.StringData(other) {
				t.Errorf("the texts %d and %d are one", k, i)
			}
		}
	}
}

// inUse is how many bytes are held on to.
func inUse() int {
	var m runtime.MemStats
	runtime.GC()
	runtime.ReadMemStats(&m)
	return int(m.HeapAlloc)
}

// TestNotKept: P12.9, W6: a log does not hold on to what was handed in, not even where a list was empty.
func TestNotKept(t *testing.T) {
	const mega = 1 << 20
	l := &oplog.Log{}
	before := inUse()
	for i := range 200 {
		o := leave(1, i+1)
		o.Deps = append(make(api.Vector, 0, 4000), each(func(site int) int { return says(vec(1, i), site) })...)
		o.Gone = make([]api.Run, 0, 4000)
		wantErr(t, i, l.Add(o), api.OK)
	}
	if all := inUse() - before; all > 2*mega {
		t.Errorf("%d bytes are kept", all)
	}
	if l.Len() != 200 {
		t.Errorf("Len: %d", l.Len())
	}
}

// TestForgotten: P12.4: what a log has forgotten it does not hold on to, wherever it stood.
func TestForgotten(t *testing.T) {
	const mega = 1 << 20
	gone := make([]api.Run, api.MaxGone)
	for i := range gone {
		gone[i] = run(1+2*i, 1, 1)
	}
	l := &oplog.Log{}
	before := inUse()
	for i := range 800 {
		site, seq := 1+i%2, 1+i/2
		deps := each(func(of int) int { return says(vec(site, seq-1), of) })
		wantErr(t, i, l.Add(api.Op{Kind: api.OpDelete, Dot: dot(site, seq), Deps: deps, Gone: gone}), api.OK)
	}
	// 800 operations with 24 kilobytes each.
	all := inUse() - before
	if all < 16*mega || all > 28*mega {
		t.Errorf("%d bytes are kept", all)
	}
	l.Cut(vec(1, 400))
	if left := inUse() - before; left < 8*mega || left > 14*mega {
		t.Errorf("%d bytes are kept behind a cut to the half", left)
	}
	l.Cut(vec(2, 399))
	if left := inUse() - before; left > 2*mega {
		t.Errorf("%d bytes are kept behind a cut to all but one", left)
	}
	if l.Len() != 1 {
		t.Errorf("Len: %d", l.Len())
	}
	runtime.KeepAlive(l)
	runtime.KeepAlive(gone)
}
