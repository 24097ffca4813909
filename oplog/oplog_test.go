package oplog_test

import (
	"math"
	"slices"
	"testing"

	"hearsay/api"
	"hearsay/image"
	"hearsay/oplog"
)

func dot(site, seq int) api.Dot { return api.Dot{Site: site, Seq: seq} }

func id(time, site int) api.ID { return api.ID{Time: time, Site: site} }

func run(time, site, count int) api.Run { return api.Run{ID: id(time, site), Count: count} }

// vec is the list of these Sites and Seqs, one behind the other.
func vec(numbers ...int) api.Vector {
	var v api.Vector
	for pair := range slices.Chunk(numbers, 2) {
		v = append(v, dot(pair[0], pair[1]))
	}
	return v
}

// made is an operation of a kind, with something in it that hangs on its Dot.
func made(kind, site, seq int, deps ...int) api.Op {
	o := api.Op{Kind: kind, Dot: dot(site, seq), Deps: vec(deps...)}
	switch kind {
	case api.OpInsert:
		o.ID, o.Ref, o.Text = id(5+seq, site), id(4, 3), "hé"+string(rune('a'+seq%26))
	case api.OpDelete:
		o.Gone = []api.Run{run(3, site, 1+seq%7), run(14, 2, 1)}
	case api.OpJoin:
		o.Site = 1 + (site+seq)%api.MaxSites
	}
	return o
}

func leave(site, seq int, deps ...int) api.Op { return made(api.OpLeave, site, seq, deps...) }

// richBase and rich are a log whose operations are of all kinds, depend on one another, on the base, and on nothing; each call makes new ones.
func richBase() api.Vector { return vec(2, 3, 16, 1) }

func rich() []api.Op {
	return []api.Op{
		made(api.OpJoin, 1, 1, 2, 3),
		made(api.OpInsert, 1, 2, 1, 1, 2, 3),
		made(api.OpDelete, 16, 2, 16, 1),
		made(api.OpInsert, 2, 4, 1, 2, 2, 3, 16, 1),
		made(api.OpLeave, 16, 3, 1, 1, 2, 3, 16, 2),
		made(api.OpDelete, 2, 5, 1, 2, 2, 4, 16, 2),
		made(api.OpInsert, 1, 3, 1, 2, 2, 4, 16, 3),
		made(api.OpJoin, 9, 1, 1, 3, 2, 5, 16, 3),
	}
}

func richLog(t *testing.T) both {
	t.Helper()
	return begun(t, richBase(), rich()...)
}

// edges is numbers about each limit there is.
var edges = []int{
	math.MinInt, math.MinInt + 1, -api.MaxSeq - 1, -api.MaxSites, -1, 0, 1, 2, 3, 4, 5, 6, 7, api.MaxSites - 1, api.MaxSites, api.MaxSites + 1, api.MaxText, api.MaxText + 1,
	api.MaxSeq - 1, api.MaxSeq, api.MaxSeq + 1, 1 << 32, 1<<32 + 1, math.MaxInt - 1, math.MaxInt,
}

// cross is the Dots of all these Sites with all these Seqs.
func cross(sites, seqs []int) []api.Dot {
	var l []api.Dot
	for _, site := range sites {
		for _, seq := range seqs {
			l = append(l, dot(site, seq))
		}
	}
	return l
}

// wrong is a list that is no vector, and its error.
type wrong struct {
	v   api.Vector
	err api.Errno
}

// odd is such lists.
func odd() []wrong {
	return []wrong{
		{vec(0, 1), api.ErrArg}, {vec(17, 1), api.ErrArg}, {vec(-1, 1), api.ErrArg}, {vec(math.MinInt, 1), api.ErrArg}, {vec(math.MaxInt, 1), api.ErrArg}, {vec(1<<32+1, 1), api.ErrArg},
		{vec(1, 0), api.ErrForm}, {vec(1, -1), api.ErrForm}, {vec(1, api.MaxSeq+1), api.ErrForm}, {vec(1, math.MinInt), api.ErrForm}, {vec(1, math.MaxInt), api.ErrForm}, {vec(1, 1<<32+1), api.ErrForm},
		{vec(1, 1, 1, 1), api.ErrOrder}, {vec(1, 1, 1, 2), api.ErrOrder}, {vec(2, 1, 1, 1), api.ErrOrder}, {vec(1, 1, 3, 1, 2, 1), api.ErrOrder},
		// Two things at once: of one Dot, and of two, of which the first one counts.
		{vec(0, 0), api.ErrArg}, {vec(2, 1, 1, 0), api.ErrForm}, {vec(2, 1, 0, 1), api.ErrArg}, {vec(17, 0, 1, 1), api.ErrArg}, {vec(1, 0, 17, 1), api.ErrForm}, {vec(2, 1, 1, 1, 0, 1), api.ErrOrder},
	}
}

// wantDots holds the Dots of operations, written out, against what they must be.
func wantDots(t *testing.T, what string, ops []api.Op, want api.Vector) {
	t.Helper()
	var got api.Vector
	for _, o := range ops {
		got = append(got, o.Dot)
	}
	wantVector(t, what, got, want)
}

// TestExamples: all rows of the chapter's examples.
func TestExamples(t *testing.T) {
	j := api.Op{Kind: api.OpJoin, Dot: dot(1, 1), Site: 1}
	k := api.Op{Kind: api.OpLeave, Dot: dot(1, 2), Deps: vec(1, 1)}
	l := api.Op{Kind: api.OpJoin, Dot: dot(2, 1), Deps: vec(1, 1), Site: 3}
	b := begun(t, nil)
	for i, x := range []struct {
		o    api.Op
		want api.Errno
	}{{k, api.ErrOrder}, {j, api.OK}, {j, api.ErrOrder}, {l, api.OK}, {k, api.OK}} {
		wantErr(t, i, b.add(t, x.o), x.want)
		wantLog(t, b)
	}
	wantOps(t, "Beyond(nothing)", b.beyond(t, nil), []api.Op{j, l, k})
	wantOps(t, "Beyond({1 1})", b.beyond(t, vec(1, 1)), []api.Op{l, k})
	wantOps(t, "Beyond({2 1})", b.beyond(t, vec(2, 1)), []api.Op{j, k})
	if n := b.log.Lacks(vec(1, 2)); n != 1 {
		t.Errorf("Lacks: %d", n)
	}
	wantVector(t, "Vector", b.log.Vector(), vec(1, 2, 2, 1))
	for _, x := range []struct {
		upto, base api.Vector
		gone       []api.Op
		err        api.Errno
		count      int
	}{
		{vec(1, 3), nil, nil, api.ErrOrder, 3}, {vec(1, 1, 1, 2), nil, nil, api.ErrOrder, 3}, {vec(1, 1), vec(1, 1), []api.Op{j}, api.OK, 2},
		{vec(2, 1), vec(1, 1, 2, 1), []api.Op{l}, api.OK, 1}, {nil, vec(1, 1, 2, 1), nil, api.OK, 1},
	} {
		gone, err := b.cut(t, x.upto)
		wantErr(t, x.upto, err, x.err)
		wantOps(t, "Cut", gone, x.gone)
		wantVector(t, "Base", b.log.Base(), x.base)
		if b.log.Len() != x.count {
			t.Errorf("Len: %d; want %d", b.log.Len(), x.count)
		}
		wantLog(t, b)
	}
	above := begun(t, vec(1, 5))
	wantErr(t, "above a base", above.add(t, leave(1, 6, 1, 5)), api.OK)
	if above.log.Len() != 1 {
		t.Errorf("Len: %d", above.log.Len())
	}
}

// wantNew holds New of a list against what it must be.
func wantNew(t *testing.T, base api.Vector) {
	t.Helper()
	given := roomy(base, junkDot)
	l, err := oplog.New(given)
	wantErr(t, base, err, wantCheck(base))
	wantUnchanged(t, "New", given, base)
	if (l == nil) != (err != api.OK) {
		t.Errorf("New(%v): %v, %d", base, l, int(err))
	}
	spoil(given, junkDot)
	if l != nil {
		wantLog(t, both{l, &model{began: base}})
	}
}

// TestNew: P12.1: of all lists of up to three Dots, right ones and such as offend in each way and in several at once; of all sites; of lists that are none, written out.
func TestNew(t *testing.T) {
	pieces := cross([]int{0, 1, 2, api.MaxSites, api.MaxSites + 1}, []int{-1, 0, 1, api.MaxSeq, api.MaxSeq + 1})
	lists := []api.Vector{nil, {}}
	for at := 1; at < len(lists); at++ {
		wantNew(t, lists[at])
		for _, p := range pieces {
			if len(lists[at]) < 3 {
				lists = append(lists, append(slices.Clone(lists[at]), p))
			}
		}
	}
	wantNew(t, nil)
	for _, d := range cross(edges, edges) {
		wantNew(t, api.Vector{d})
		wantNew(t, api.Vector{dot(7, 7), d})
	}
	for _, seq := range []int{1, api.MaxSeq} {
		all := each(func(int) int { return seq })
		wantNew(t, all)
		wantNew(t, append(all, dot(api.MaxSites, 1)))
		wantNew(t, append(all, dot(api.MaxSites+1, 1)))
	}
	for _, x := range odd() {
		l, err := oplog.New(x.v)
		wantErr(t, x.v, err, x.err)
		if l != nil {
			t.Errorf("New(%v): a log beside an error", x.v)
		}
	}
	wantNew(t, make(api.Vector, 100000))
}

// TestZero: a zero Log has an empty base and no operation, and goes on like one of New.
func TestZero(t *testing.T) {
	for _, b := range []both{{&oplog.Log{}, &model{}}, {new(oplog.Log), &model{}}, begun(t, nil), begun(t, api.Vector{})} {
		wantLog(t, b)
		wantEvery(t, b)
		for _, x := range odd() {
			_, err := b.cut(t, x.v)
			wantErr(t, x.v, err, x.err)
			wantOps(t, "Beyond", b.beyond(t, x.v), nil)
		}
		_, err := b.cut(t, vec(1, 1))
		wantErr(t, "Cut beyond it", err, api.ErrOrder)
		_, err = b.cut(t, nil)
		wantErr(t, "Cut to nothing", err, api.OK)
		wantErr(t, "an operation that is none", b.add(t, api.Op{}), api.ErrOp)
		wantErr(t, "a second one", b.add(t, leave(1, 2, 1, 1)), api.ErrOrder)
		wantErr(t, "a first one that depends", b.add(t, leave(1, 1, 2, 1)), api.ErrOrder)
		wantLog(t, b)
		wantErr(t, "a first one", b.add(t, leave(1, 1)), api.OK)
		wantErr(t, "a second one", b.add(t, leave(1, 2, 1, 1)), api.OK)
		wantLog(t, b)
		wantEvery(t, b)
	}
}

// TestNil: W8: nothing happens to a nil Log, whatever it is asked.
func TestNil(t *testing.T) {
	var l *oplog.Log
	lists := []api.Vector{nil, {}, vec(1, 1), vec(0, 1), vec(1, 0), vec(2, 1, 1, 1)}
	for _, v := range lists {
		it := l.Beyond(v)
		if it == nil || len(through(it)) > 0 || l.Lacks(v) != 0 {
			t.Errorf("Beyond(%v), Lacks", v)
		}
		if ops, err := l.Cut(v); ops != nil || err != api.ErrArg {
			t.Errorf("Cut(%v): %v, %d", v, ops, int(err))
		}
	}
	for _, o := range []api.Op{{}, leave(1, 1), leave(1, 2, 1, 1), made(api.OpInsert, 2, 1)} {
		wantErr(t, o, l.Add(o), api.ErrArg)
	}
	if l.Base() != nil || l.Vector() != nil || l.Len() != 0 {
		t.Errorf("%v, %v, %d", l.Base(), l.Vector(), l.Len())
	}
}

// TestAddErrors: P12.2: what each thing comes to, written out, behind a base and operations; two errors at once too.
func TestAddErrors(t *testing.T) {
	full := api.MaxSeq
	bad := func(turn func(o *api.Op), o api.Op) api.Op {
		turn(&o)
		return o
	}
	withSite := func(o *api.Op) { o.Site = 1 }
	badText := func(o *api.Op) { o.Text = "\xff" }
	for _, x := range []struct {
		o    api.Op
		want api.Errno
	}{
		// The next one of each site, whatever it depends on, as long as that is there.
		{leave(1, 7, 1, 6), api.OK}, {leave(1, 7, 1, 6, 2, 1, 3, 2), api.OK}, {leave(1, 7, 1, 6, 3, 1), api.OK}, {leave(2, 2, 2, 1), api.OK}, {leave(2, 2, 1, 1, 2, 1, 3, 1), api.OK},
		{leave(3, 3, 3, 2), api.OK}, {leave(3, 3, 1, 6, 3, 2), api.OK}, {leave(4, 1), api.OK}, {leave(4, 1, 1, 6, 2, 1, 3, 2), api.OK}, {leave(16, 1, 2, 1), api.OK},
		{made(api.OpInsert, 1, 7, 1, 6), api.OK}, {made(api.OpDelete, 4, 1, 3, 2), api.OK}, {made(api.OpJoin, 2, 2, 2, 1), api.OK},
		// There already: one of the log, the last one of the base, earlier ones.
		{leave(1, 6, 1, 5), api.ErrOrder}, {leave(2, 1), api.ErrOrder}, {leave(2, 1, 1, 6, 3, 2), api.ErrOrder}, {leave(1, 5, 1, 4), api.ErrOrder}, {leave(1, 1), api.ErrOrder}, {leave(3, 2, 3, 1), api.ErrOrder}, {leave(3, 1), api.ErrOrder},
		// One too high, of each site; far too high.
		{leave(1, 8, 1, 7), api.ErrOrder}, {leave(2, 3, 2, 2), api.ErrOrder}, {leave(3, 4, 3, 3), api.ErrOrder}, {leave(4, 2, 4, 1), api.ErrOrder}, {leave(1, full, 1, full-1), api.ErrOrder}, {leave(16, full, 16, full-1), api.ErrOrder},
		// Deps that the log has not, by one, of each site.
		{leave(2, 2, 1, 7, 2, 1), api.ErrOrder}, {leave(1, 7, 1, 6, 2, 2), api.ErrOrder}, {leave(1, 7, 1, 6, 3, 3), api.ErrOrder}, {leave(1, 7, 1, 6, 4, 1), api.ErrOrder}, {leave(4, 1, 5, 1), api.ErrOrder}, {leave(4, 1, 1, full), api.ErrOrder},
		// No operations: nothing, a number of another one's, a Seq that its Deps do not say.
		{api.Op{}, api.ErrOp}, {leave(0, 1), api.ErrOp}, {leave(17, 1), api.ErrOp}, {leave(-1, 1), api.ErrOp}, {leave(4, 0), api.ErrOp}, {leave(4, -1), api.ErrOp}, {leave(1, 7), api.ErrOp}, {leave(1, 7, 1, 5), api.ErrOp},
		{leave(1, 7, 1, 7), api.ErrOp}, {leave(1, 7, 2, 1, 1, 6), api.ErrOp}, {leave(1, 7, 0, 1, 1, 6), api.ErrOp}, {leave(1, 7, 1, 6, 17, 1), api.ErrOp}, {leave(1, 7, 1, 6, 2, 0), api.ErrOp}, {leave(4, full+1, 4, full), api.ErrOp},
		{made(0, 4, 1), api.ErrOp}, {made(5, 4, 1), api.ErrOp}, {made(-1, 4, 1), api.ErrOp}, {made(math.MaxInt, 4, 1), api.ErrOp}, {bad(withSite, leave(4, 1)), api.ErrOp}, {bad(badText, made(api.OpInsert, 4, 1)), api.ErrOp},
		// Both at once: it is no operation, and is there already, comes too early, or depends on what is not there.
		{bad(withSite, leave(1, 6, 1, 5)), api.ErrOp}, {bad(withSite, leave(1, 8, 1, 7)), api.ErrOp}, {bad(withSite, leave(4, 1, 5, 1)), api.ErrOp}, {bad(badText, made(api.OpInsert, 1, 8, 1, 7)), api.ErrOp},
		{leave(1, 8, 1, 6), api.ErrOp}, {leave(1, 6, 1, 6), api.ErrOp}, {leave(1, 7, 1, 5, 4, 9), api.ErrOp}, {made(9, 2, 9, 2, 8), api.ErrOp}, {leave(4, 1, 6, 1, 5, 1), api.ErrOp},
	} {
		b := begun(t, vec(1, 5, 3, 2), leave(1, 6, 1, 5), made(api.OpDelete, 2, 1, 1, 6, 3, 2))
		wantErr(t, x.o, b.add(t, x.o), x.want)
		wantLog(t, b)
		wantErr(t, "what comes behind it", b.add(t, leave(9, 1, 1, 6)), api.OK)
		wantLog(t, b)
		if x.want == api.OK {
			wantErr(t, "the same again", b.add(t, x.o), api.ErrOrder)
			wantOps(t, "what was added", b.beyond(t, nil)[2:], []api.Op{x.o, leave(9, 1, 1, 6)})
		}
	}
}

// numbersOf is all numbers that an operation has, where they stand.
func numbersOf(o *api.Op) []*int {
	l := []*int{&o.Kind, &o.Dot.Site, &o.Dot.Seq, &o.ID.Time, &o.ID.Site, &o.Ref.Time, &o.Ref.Site, &o.Site}
	for i := range o.Deps {
		l = append(l, &o.Deps[i].Site, &o.Deps[i].Seq)
	}
	for i := range o.Gone {
		l = append(l, &o.Gone[i].ID.Time, &o.Gone[i].ID.Site, &o.Gone[i].Count)
	}
	return l
}

// TestAddTurned: P12.2, W1: each number of an operation of each kind turned, one and two at a time, about each limit.
func TestAddTurned(t *testing.T) {
	seen := map[api.Errno]int{}
	try := func(b both, o api.Op) both {
		err := b.add(t, o)
		seen[err]++
		wantVector(t, "Vector", b.log.Vector(), b.model.vector())
		if err == api.OK {
			return richLog(t)
		}
		return b
	}
	b := richLog(t)
	for _, o := range []api.Op{made(api.OpInsert, 1, 4, 1, 3, 16, 3), made(api.OpDelete, 2, 6, 1, 3, 2, 5), made(api.OpJoin, 3, 1, 2, 4), made(api.OpLeave, 16, 4, 9, 1, 16, 3)} {
		for i := range numbersOf(&o) {
			for _, n := range edges {
				one := clone(o)
				*numbersOf(&one)[i] = n
				b = try(b, one)
				for k := range i {
					for _, m := range []int{math.MinInt, 0, 1, 2, 4, 5, 17, math.MaxInt} {
						two := clone(one)
						*numbersOf(&two)[k] = m
						b = try(b, two)
					}
				}
			}
		}
	}
	wantLog(t, b)
	for _, err := range []api.Errno{api.OK, api.ErrOrder, api.ErrOp} {
		if seen[err] < 20 {
			t.Errorf("the error %d came %d times alone", int(err), seen[err])
		}
	}
}

// TestAddGrid: P12.2: every Dot with all Deps about what a log has, behind bases and operations of several sites.
func TestAddGrid(t *testing.T) {
	bases := []api.Vector{nil, vec(1, 1), vec(1, 1, 3, 2), vec(2, 2)}
	for _, base := range bases {
		for steps := range 4 {
			var ops []api.Op
			have := slices.Clone(base)
			for i := range steps {
				d := dot(1+i%2, says(have, 1+i%2)+1)
				ops = append(ops, api.Op{Kind: api.OpLeave, Dot: d, Deps: have})
				have = merged(have, api.Vector{d})
			}
			for _, d := range cross([]int{1, 2, 3}, []int{1, 2, 3, 4, 5}) {
				for _, deps := range about(nil, vec(1, 3, 2, 3, 3, 3)) {
					b := begun(t, base, ops...)
					b.add(t, api.Op{Kind: api.OpLeave, Dot: d, Deps: deps})
					wantVector(t, "Vector", b.log.Vector(), b.model.vector())
					if b.log.Len() != len(b.model.added) {
						t.Errorf("Len: %d; want %d", b.log.Len(), len(b.model.added))
					}
				}
				if t.Failed() {
					return
				}
			}
		}
	}
}

// TestLimits: P12.2, P12.4: the last Seqs there are, of all sites.
func TestLimits(t *testing.T) {
	near := each(func(int) int { return api.MaxSeq - 1 })
	full := each(func(int) int { return api.MaxSeq })
	b := begun(t, near)
	for site := range api.MaxSites {
		deps := b.log.Vector()
		o := api.Op{Kind: api.OpLeave, Dot: dot(site+1, api.MaxSeq), Deps: deps}
		wantErr(t, o, b.add(t, o), api.OK)
		wantErr(t, o, b.add(t, o), api.ErrOrder)
		wantErr(t, "beyond the last one", b.add(t, leave(site+1, api.MaxSeq+1, site+1, api.MaxSeq)), api.ErrOp)
		wantLog(t, b)
	}
	wantVector(t, "Vector", b.log.Vector(), full)
	for _, v := range []api.Vector{nil, near, full, vec(16, api.MaxSeq), vec(1, api.MaxSeq-1, 2, api.MaxSeq), vec(1, api.MaxSeq+1), vec(1, math.MaxInt)} {
		b.beyond(t, v)
	}
	gone, err := b.cut(t, vec(3, api.MaxSeq, 5, api.MaxSeq-1, 9, 1, 16, api.MaxSeq))
	wantErr(t, "Cut", err, api.OK)
	wantDots(t, "Cut", gone, vec(3, api.MaxSeq, 16, api.MaxSeq))
	wantLog(t, b)
	gone, err = b.cut(t, full)
	wantErr(t, "Cut", err, api.OK)
	if len(gone) != 14 || b.log.Len() != 0 {
		t.Errorf("%d gone, %d left", len(gone), b.log.Len())
	}
	wantLog(t, b)
}

// TestBeyond: P12.3, P12.7: of every vector about what a log has, at each length of it, and behind cuts; of lists that are none, and of vectors far beyond.
func TestBeyond(t *testing.T) {
	for n := range len(rich()) + 1 {
		b := begun(t, richBase(), rich()[:n]...)
		wantLog(t, b)
		wantEvery(t, b)
	}
	b := richLog(t)
	for _, x := range odd() {
		wantOps(t, "Beyond", b.beyond(t, x.v), nil)
	}
	for _, d := range cross(edges, edges) {
		b.beyond(t, api.Vector{d})
		b.beyond(t, api.Vector{dot(1, 1), d})
		b.beyond(t, api.Vector{d, dot(16, 2)})
	}
	wantOps(t, "Beyond", b.beyond(t, make(api.Vector, 100000)), nil)
	wantOps(t, "Beyond", b.beyond(t, each(func(int) int { return api.MaxSeq })), nil)
	wantOps(t, "Beyond", b.beyond(t, each(func(int) int { return 1 })), []api.Op{rich()[1], rich()[2], rich()[3], rich()[4], rich()[5], rich()[6]})
	// Written out: in the order in which they were added, not by sites.
	for _, x := range []struct{ have, want api.Vector }{
		{nil, vec(1, 1, 1, 2, 16, 2, 2, 4, 16, 3, 2, 5, 1, 3, 9, 1)}, {vec(2, 3, 16, 1), vec(1, 1, 1, 2, 16, 2, 2, 4, 16, 3, 2, 5, 1, 3, 9, 1)}, {vec(1, 2), vec(16, 2, 2, 4, 16, 3, 2, 5, 1, 3, 9, 1)},
		{vec(1, 99, 16, 2), vec(2, 4, 16, 3, 2, 5, 9, 1)}, {vec(1, 3, 2, 5, 16, 3), vec(9, 1)}, {vec(9, 1), vec(1, 1, 1, 2, 16, 2, 2, 4, 16, 3, 2, 5, 1, 3)}, {vec(3, 8), vec(1, 1, 1, 2, 16, 2, 2, 4, 16, 3, 2, 5, 1, 3, 9, 1)},
		{vec(1, 3, 2, 5, 9, 1, 16, 3), nil}, {vec(1, api.MaxSeq, 2, api.MaxSeq, 9, api.MaxSeq), vec(16, 2, 16, 3)}, {vec(1, 1, 17, 1), nil}, {vec(16, 2, 1, 2), nil},
	} {
		wantDots(t, "Beyond", b.beyond(t, x.have), x.want)
	}
	b.cut(t, vec(1, 1, 16, 2))
	wantEvery(t, b)
	for _, x := range []struct{ have, want api.Vector }{
		{nil, vec(1, 2, 2, 4, 16, 3, 2, 5, 1, 3, 9, 1)}, {vec(1, 1, 2, 4), vec(1, 2, 16, 3, 2, 5, 1, 3, 9, 1)}, {vec(2, 5, 16, 1), vec(1, 2, 16, 3, 1, 3, 9, 1)},
	} {
		wantDots(t, "Beyond", b.beyond(t, x.have), x.want)
	}
}

// TestCut: P12.4, P12.6, P12.8: to every vector about what a log has; what is refused changes nothing; what is left goes on.
func TestCut(t *testing.T) {
	seen := map[api.Errno]int{}
	for _, upto := range about(richBase(), richLog(t).model.vector()) {
		b := richLog(t)
		_, err := b.cut(t, upto)
		seen[err]++
		wantLog(t, b)
		wantErr(t, "what comes behind a cut", b.add(t, made(api.OpInsert, 2, 6, 1, 3, 2, 5, 9, 1)), api.OK)
		wantErr(t, "what was cut off", b.add(t, rich()[0]), api.ErrOrder)
		b.beyond(t, upto)
		wantLog(t, b)
		if t.Failed() {
			return
		}
	}
	if seen[api.OK] < 100 || seen[api.ErrOrder] < 100 {
		t.Errorf("%v", seen)
	}
	// Written out: below the base, at it, partly below, beyond it, at all there is; beyond what there is.
	for _, x := range []struct {
		upto, gone, base api.Vector
		err              api.Errno
	}{
		{nil, nil, vec(2, 3, 16, 1), api.OK}, {vec(2, 2), nil, vec(2, 3, 16, 1), api.OK}, {vec(2, 3, 16, 1), nil, vec(2, 3, 16, 1), api.OK}, {vec(1, 1), vec(1, 1), vec(1, 1, 2, 3, 16, 1), api.OK},
		{vec(1, 2, 2, 1), vec(1, 1, 1, 2), vec(1, 2, 2, 3, 16, 1), api.OK}, {vec(16, 3), vec(16, 2, 16, 3), vec(2, 3, 16, 3), api.OK}, {vec(2, 4, 16, 1), vec(2, 4), vec(2, 4, 16, 1), api.OK},
		{vec(9, 1), vec(9, 1), vec(2, 3, 9, 1, 16, 1), api.OK}, {vec(1, 3, 2, 5, 9, 1, 16, 3), vec(1, 1, 1, 2, 16, 2, 2, 4, 16, 3, 2, 5, 1, 3, 9, 1), vec(1, 3, 2, 5, 9, 1, 16, 3), api.OK},
		{vec(1, 4), nil, vec(2, 3, 16, 1), api.ErrOrder}, {vec(1, 1, 2, 6), nil, vec(2, 3, 16, 1), api.ErrOrder}, {vec(3, 1), nil, vec(2, 3, 16, 1), api.ErrOrder}, {vec(1, 3, 2, 5, 9, 1, 16, 4), nil, vec(2, 3, 16, 1), api.ErrOrder},
		{vec(16, api.MaxSeq), nil, vec(2, 3, 16, 1), api.ErrOrder},
	} {
		b := richLog(t)
		gone, err := b.cut(t, x.upto)
		wantErr(t, x.upto, err, x.err)
		wantDots(t, "Cut", gone, x.gone)
		wantVector(t, "Base", b.log.Base(), x.base)
		wantEvery(t, b)
	}
}

// TestCutErrors: P12.4, W4: lists that are no vectors, also such as go beyond the log, of which the first error counts; nothing changes.
func TestCutErrors(t *testing.T) {
	b := richLog(t)
	for _, x := range odd() {
		_, err := b.cut(t, x.v)
		wantErr(t, x.v, err, x.err)
		wantLog(t, b)
	}
	for _, x := range []struct {
		upto api.Vector
		want api.Errno
	}{
		{vec(1, 9, 17, 1), api.ErrArg}, {vec(1, 9, 2, 0), api.ErrForm}, {vec(1, 9, 2, api.MaxSeq+1), api.ErrForm}, {vec(3, 1, 0, 1), api.ErrArg}, {vec(3, 1, 1, 0), api.ErrForm},
		{vec(1, 9, 1, 1), api.ErrOrder}, {vec(1, 1, 1, 9), api.ErrOrder}, {vec(1, math.MaxInt), api.ErrForm}, {vec(math.MaxInt, 1), api.ErrArg},
	} {
		_, err := b.cut(t, x.upto)
		wantErr(t, x.upto, err, x.want)
	}
	for _, d := range cross(edges, edges) {
		b := richLog(t)
		b.cut(t, api.Vector{d})
		wantVector(t, "Base", b.log.Base(), b.model.base())
		b.cut(t, api.Vector{dot(2, 4), d})
		wantVector(t, "Base", b.log.Base(), b.model.base())
		wantLog(t, b)
	}
	b.cut(t, make(api.Vector, 100000))
	wantLog(t, b)
}

// TestCutTwice: P12.8: two cuts, of every two vectors about what a log has, are one to both merged; what they forget, and what is left, are the log's operations as they were.
func TestCutTwice(t *testing.T) {
	seqs := [][]int{{0, 1, 2, 3}, {0, 2, 3, 4, 5}, {0, 1}, {0, 1, 2, 3}}
	var all []api.Vector
	for i := range 4 * 5 * 2 * 4 {
		says := []int{seqs[0][i%4], seqs[1][i/4%5], seqs[2][i/20%2], seqs[3][i/40]}
		all = append(all, each(func(site int) int { return map[int]int{1: says[0], 2: says[1], 9: says[2], 16: says[3]}[site] }))
	}
	vector := richLog(t).model.vector()
	for _, first := range all {
		for _, second := range all {
			two, one := richLog(t), richLog(t)
			early, e := two.cut(t, first)
			late, e2 := two.cut(t, second)
			gone, e3 := one.cut(t, merged(first, second))
			if e != api.OK || e2 != api.OK || e3 != api.OK {
				t.Errorf("%v, %v: %d, %d, %d", first, second, int(e), int(e2), int(e3))
			}
			wantVector(t, "Base", two.log.Base(), one.log.Base())
			wantVector(t, "Vector", two.log.Vector(), vector)
			wantVector(t, "Vector", one.log.Vector(), vector)
			left := through(two.log.Beyond(nil))
			wantOps(t, "what is left", left, through(one.log.Beyond(nil)))
			// All of them together are what there was, each once, and each part in the order of the whole.
			wantOps(t, "what is forgotten", picked(append(early, late...)), gone)
			wantOps(t, "all", picked(append(gone, left...)), rich())
			wantOps(t, "in their order", picked(left), left)
			if t.Failed() {
				t.Fatalf("%v, %v", first, second)
			}
		}
	}
}

// picked is those of some operations that the rich log has, in its order, as often as they come.
func picked(ops []api.Op) []api.Op {
	var l []api.Op
	for _, r := range rich() {
		for _, o := range ops {
			if o.Dot == r.Dot {
				l = append(l, o)
			}
		}
	}
	return l
}

// TestCutAgain: P12.8: the same cut twice forgets nothing the second time, and one that is below the base nothing either.
func TestCutAgain(t *testing.T) {
	b := richLog(t)
	for _, upto := range []api.Vector{vec(1, 1, 2, 4), vec(2, 5, 16, 2), vec(1, 3, 2, 5, 9, 1, 16, 3)} {
		gone, _ := b.cut(t, upto)
		if len(gone) == 0 {
			t.Errorf("Cut(%v): nothing", upto)
		}
		for _, lower := range []api.Vector{upto, upto[:1], nil, b.log.Base()} {
			again, err := b.cut(t, lower)
			wantErr(t, lower, err, api.OK)
			wantOps(t, "Cut again", again, nil)
			wantLog(t, b)
		}
	}
}

// TestImages: P9.1, P9.5: an image's Log is taken or refused by chapter 9 just as Add takes or refuses it, one by one.
func TestImages(t *testing.T) {
	ops := append(rich(), leave(1, 4, 1, 2), leave(3, 1, 4, 1), api.Op{}, leave(2, 4, 2, 3))
	seen := map[api.Errno]int{}
	for i := range ops {
		for k := range ops {
			for _, l := range [][]api.Op{{ops[i], ops[k]}, slices.Insert(rich(), i%9, ops[k]), slices.Delete(rich(), i%8, i%8+1), append(rich(), ops[i], ops[k])} {
				log, _ := oplog.New(richBase())
				want := api.OK
				for _, o := range l {
					if want == api.OK {
						want = log.Add(o)
					}
				}
				seen[want]++
				wantErr(t, l, image.Check(api.Image{Vector: log.Vector(), Base: log.Base(), Clock: api.MaxTime, Log: l}), want)
			}
		}
	}
	if len(seen) != 3 {
		t.Errorf("%v", seen)
	}
}
