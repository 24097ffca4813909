package oplog_test

import (
	"iter"
	"math/rand"
	"slices"
	"testing"

	"hearsay/api"
	"hearsay/oplog"
)

// someVector is a vector by chance, that is mostly covered by another one, of which it is not always below.
func someVector(chance *rand.Rand, of api.Vector) api.Vector {
	return each(func(site int) int {
		n := says(of, site)
		switch chance.Intn(12) {
		case 0, 1, 2:
			return n
		case 3, 4:
			return 0
		case 5:
			return n + chance.Intn(2)*chance.Intn(2)*chance.Intn(2)
		}
		return chance.Intn(n + 1)
	})
}

// someList is a vector by chance, or something that is none, or that goes far.
func someList(chance *rand.Rand, of api.Vector) api.Vector {
	v := someVector(chance, of)
	if len(v) > 0 && chance.Intn(8) == 0 {
		d := &v[chance.Intn(len(v))]
		if n := edges[chance.Intn(len(edges))]; chance.Intn(2) == 0 {
			d.Seq = n
		} else {
			d.Site = n
		}
	}
	if len(v) > 1 && chance.Intn(20) == 0 {
		chance.Shuffle(len(v), func(i, k int) { v[i], v[k] = v[k], v[i] })
	}
	return v
}

// someOp is an operation by chance: mostly the next one of a site, with Deps that are there.
func someOp(chance *rand.Rand, have api.Vector, sites int) api.Op {
	site := 1 + chance.Intn(sites)
	if chance.Intn(3) == 0 {
		site = api.MaxSites + 1 - site
	}
	seq := says(have, site) + 1
	switch chance.Intn(14) {
	case 0:
		seq = max(seq-1, 1)
	case 1:
		seq++
	}
	o := made(1+chance.Intn(4), site, seq)
	deps := someVector(chance, have)
	o.Deps = each(func(s int) int {
		if s == site {
			return seq - 1
		}
		return says(deps, s)
	})
	if chance.Intn(20) == 0 {
		l := numbersOf(&o)
		*l[chance.Intn(len(l))] = edges[chance.Intn(len(edges))]
	}
	return o
}

// step does one call by chance twice over, and says which one, and its error.
func (b both) step(t *testing.T, chance *rand.Rand, sites int) (string, api.Errno) {
	t.Helper()
	have := b.model.vector()
	switch n := chance.Intn(12); {
	case n < 8:
		return "Add", b.add(t, someOp(chance, have, sites))
	case n < 9:
		_, err := b.cut(t, someList(chance, have))
		return "Cut", err
	}
	wantCausal(t, b.beyond(t, someList(chance, have)))
	return "Beyond", api.OK
}

// promise is an iterator, and what it must go through, whenever it is asked.
type promise struct {
	it   iter.Seq[api.Op]
	want []api.Op
}

// TestScripts: P12.2 to P12.9, W3, W7: calls by chance, each held against what it must do, with Base, Vector and Len behind each; iterators that were made on the way go through what there was then.
func TestScripts(t *testing.T) {
	chance := rand.New(rand.NewSource(12))
	seen := map[string]map[api.Errno]int{"Add": {}, "Cut": {}, "Beyond": {}}
	for range 300 {
		b := begun(t, someVector(chance, []api.Vector{nil, vec(1, 2, 2, 5, 16, 3), each(func(int) int { return 4 })}[chance.Intn(3)]))
		sites := 1 + chance.Intn(4)
		var kept []promise
		for range 40 {
			call, err := b.step(t, chance, sites)
			seen[call][err]++
			wantLog(t, b)
			if chance.Intn(6) == 0 {
				have := someList(chance, b.model.vector())
				kept = append(kept, promise{b.log.Beyond(have), b.model.beyond(have)})
			}
		}
		for _, p := range kept {
			wantOps(t, "an earlier iterator", through(p.it), p.want)
			wantOps(t, "an earlier iterator again", through(p.it), p.want)
		}
		if t.Failed() {
			return
		}
	}
	for call, want := range map[string][]api.Errno{"Add": {api.OK, api.ErrOrder, api.ErrOp}, "Cut": {api.OK, api.ErrArg, api.ErrForm, api.ErrOrder}} {
		for _, err := range want {
			if seen[call][err] < 20 {
				t.Errorf("%s: the error %d came %d times alone", call, int(err), seen[call][err])
			}
		}
	}
}

// TestFewCalls: P12.2 to P12.8: all rows of few calls, right ones and wrong ones.
func TestFewCalls(t *testing.T) {
	add := func(o api.Op) func(b both) { return func(b both) { b.add(t, o) } }
	cut := func(numbers ...int) func(b both) { return func(b both) { b.cut(t, vec(numbers...)) } }
	calls := []func(b both){
		add(made(api.OpJoin, 1, 1)), add(made(api.OpInsert, 1, 2, 1, 1)), add(made(api.OpDelete, 2, 1, 1, 1)), add(made(api.OpLeave, 2, 1)),
		cut(1, 1), cut(2, 1), cut(1, 2, 2, 1), cut(2, 1, 1, 1),
	}
	rows := [][]int{nil}
	for at := 0; at < len(rows); at++ {
		b := both{&oplog.Log{}, &model{}}
		for _, i := range rows[at] {
			calls[i](b)
		}
		wantLog(t, b)
		wantEvery(t, b)
		if t.Failed() {
			t.Fatalf("%v", rows[at])
		}
		for i := range calls {
			if len(rows[at]) < 4 {
				rows = append(rows, append(slices.Clone(rows[at]), i))
			}
		}
	}
}

// TestInTurns: W2, W6: two logs in turns, which know nothing of one another.
func TestInTurns(t *testing.T) {
	chance := rand.New(rand.NewSource(122))
	for range 60 {
		one, two := begun(t, nil), richLog(t)
		for range 30 {
			if chance.Intn(2) == 0 {
				one.step(t, chance, 3)
			} else {
				two.step(t, chance, 3)
			}
			wantLog(t, one)
			wantLog(t, two)
		}
		if t.Failed() {
			return
		}
	}
	// What one has cut off, or hands on, another one takes.
	one, two := richLog(t), begun(t, richBase())
	gone, err := one.log.Cut(vec(1, 2, 2, 4, 16, 2))
	wantErr(t, "Cut", err, api.OK)
	for _, o := range gone {
		wantErr(t, o, two.add(t, o), api.OK)
	}
	for o := range one.log.Beyond(two.log.Vector()) {
		wantErr(t, o, two.add(t, o), api.OK)
	}
	wantVector(t, "Vector", two.log.Vector(), one.log.Vector())
	wantLog(t, two)
}

// TestHandedOn: P12.7: whoever has a vector that is closed, and lies between the base and the log's, can add what Beyond hands on, one by one.
func TestHandedOn(t *testing.T) {
	chance := rand.New(rand.NewSource(127))
	taken := 0
	for range 400 {
		b := begun(t, nil)
		for range 20 {
			b.add(t, someOp(chance, b.model.vector(), 3))
		}
		for _, o := range b.model.kept() {
			if !closed(b.model.kept(), o.Deps) {
				continue
			}
			other := begun(t, o.Deps)
			for next := range b.log.Beyond(o.Deps) {
				wantErr(t, next, other.add(t, next), api.OK)
				taken++
			}
			wantVector(t, "Vector", other.log.Vector(), b.log.Vector())
		}
		if t.Failed() {
			return
		}
	}
	if taken < 1000 {
		t.Errorf("%d taken alone", taken)
	}
}

// closed tells whether a vector has with each of some operations all that its Deps have.
func closed(ops []api.Op, v api.Vector) bool {
	return !slices.ContainsFunc(ops, func(o api.Op) bool { return has(v, o.Dot) && !slices.Equal(merged(v, o.Deps), v) })
}

// TestCopied: W8: a log that is copied as a value goes on as the copy.
func TestCopied(t *testing.T) {
	b := richLog(t)
	other := *b.log
	b.log = &other
	wantLog(t, b)
	b.cut(t, vec(1, 2, 16, 3))
	b.add(t, leave(1, 4, 1, 3))
	wantLog(t, b)
	wantEvery(t, b)
}

// TestLong: W1: a log of very many operations, cut in its midst again and again.
func TestLong(t *testing.T) {
	const count = 60000
	l := &oplog.Log{}
	for i := range count {
		if err := l.Add(api.Op{Kind: api.OpLeave, Dot: dot(1+i%4, 1+i/4), Deps: l.Vector()}); err != api.OK {
			t.Fatalf("%d: %d", i, int(err))
		}
	}
	wantVector(t, "Vector", l.Vector(), vec(1, 15000, 2, 15000, 3, 15000, 4, 15000))
	left := count
	for _, upto := range []api.Vector{vec(2, 15000), vec(1, 1), vec(1, 7000, 3, 9000), vec(4, 14999), vec(1, 15000, 3, 15000)} {
		gone, err := l.Cut(upto)
		wantErr(t, upto, err, api.OK)
		left -= len(gone)
		if l.Len() != left || l.Lacks(nil) != left || sum(l.Vector())-sum(l.Base()) != left {
			t.Errorf("%d; want %d", l.Len(), left)
		}
	}
	wantDots(t, "what is left", slices.Collect(l.Beyond(nil)), vec(4, 15000))
}
