package causal_test

import (
	"math"
	"slices"
	"testing"

	"hearsay/api"
	"hearsay/causal"
)

func dot(site, seq int) api.Dot { return api.Dot{Site: site, Seq: seq} }

func id(time, site int) api.ID { return api.ID{Time: time, Site: site} }

func run(time, site, count int) api.Run { return api.Run{ID: id(time, site), Count: count} }

// vec is the list of these Sites and Seqs, one behind the other.
func vec(numbers ...int) api.Vector {
	var v api.Vector
	for pair := range slices.Chunk(numbers, 2) {
		v = append(v, dot(pair[0], pair[1]))
	}
	return v
}

// made is an operation of a kind, with something in it that hangs on its Dot.
func made(kind, site, seq int, deps ...int) api.Op {
	o := api.Op{Kind: kind, Dot: dot(site, seq), Deps: vec(deps...)}
	switch kind {
	case api.OpInsert:
		o.ID, o.Ref, o.Text = id(5+seq, site), id(4, 3), "hé"+string(rune('a'+seq%26))
	case api.OpDelete:
		o.Gone = []api.Run{run(3, site, 1+seq%7), run(14, 2, 1)}
	case api.OpJoin:
		o.Site = 1 + (site+seq)%api.MaxSites
	}
	return o
}

func leave(site, seq int, deps ...int) api.Op { return made(api.OpLeave, site, seq, deps...) }

// join is an operation as the chapter's examples have them.
func join(site, seq int, deps ...int) api.Op {
	return api.Op{Kind: api.OpJoin, Dot: dot(site, seq), Deps: vec(deps...), Site: 9}
}

// richBase and rich are a closed set of operations of all kinds, which depend on one another, on the base, and on nothing; each call makes new ones.
func richBase() api.Vector { return vec(2, 3, 16, 1) }

func rich() []api.Op {
	return []api.Op{
		made(api.OpJoin, 1, 1, 2, 3),
		made(api.OpInsert, 1, 2, 1, 1, 2, 3),
		made(api.OpDelete, 16, 2, 16, 1),
		made(api.OpInsert, 2, 4, 1, 2, 2, 3, 16, 1),
		made(api.OpLeave, 16, 3, 1, 1, 2, 3, 16, 2),
		made(api.OpDelete, 2, 5, 1, 2, 2, 4, 16, 2),
		made(api.OpInsert, 1, 3, 1, 2, 2, 4, 16, 3),
		made(api.OpJoin, 9, 1, 1, 3, 2, 5, 16, 3),
	}
}

// richQueue is a queue of which three were delivered, one of them is taken, and four wait; one more may.
func richQueue(t *testing.T) both {
	t.Helper()
	all := rich()
	b := begun(t, 5, richBase(), all[6], all[0], all[1], all[7], all[3], all[5])
	if b.must(t, all[4]) != causal.Held {
		t.Errorf("it does not wait")
	}
	b.take(t)
	return b
}

// edges is numbers about each limit there is.
var edges = []int{
	math.MinInt, math.MinInt + 1, -api.MaxSeq - 1, -api.MaxSites, -1, 0, 1, 2, 3, 4, 5, 6, 7, api.MaxSites - 1, api.MaxSites, api.MaxSites + 1, api.MaxHold, api.MaxHold + 1, api.MaxText, api.MaxText + 1,
	api.MaxSeq - 1, api.MaxSeq, api.MaxSeq + 1, 1 << 32, 1<<32 + 1, math.MaxInt - 1, math.MaxInt,
}

// cross is the Dots of all these Sites with all these Seqs.
func cross(sites, seqs []int) []api.Dot {
	var l []api.Dot
	for _, site := range sites {
		for _, seq := range seqs {
			l = append(l, dot(site, seq))
		}
	}
	return l
}

// orders is all orders of the numbers below n.
func orders(n int) [][]int {
	if n == 0 {
		return [][]int{nil}
	}
	var all [][]int
	for _, row := range orders(n - 1) {
		for at := range n {
			all = append(all, slices.Insert(slices.Clone(row), at, n-1))
		}
	}
	return all
}

// dotsIn is the Dots of operations, in their order.
func dotsIn(ops []api.Op) []api.Dot {
	var l []api.Dot
	for _, o := range ops {
		l = append(l, o.Dot)
	}
	return l
}

// TestNames: what became of an offer has the numbers that the chapter gives it.
func TestNames(t *testing.T) {
	if got := []int{causal.Taken, causal.Held, causal.Had, causal.Dropped}; !slices.Equal(got, []int{1, 2, 3, 4}) {
		t.Errorf("%v", got)
	}
}

// TestExamples: all rows of the chapter's examples.
func TestExamples(t *testing.T) {
	for _, x := range []struct {
		hold int
		v    api.Vector
		want api.Errno
	}{{-1, nil, api.ErrArg}, {257, nil, api.ErrArg}, {1, vec(0, 1), api.ErrArg}, {2, nil, api.OK}} {
		_, err := causal.New(x.hold, x.v)
		wantErr(t, x, err, x.want)
	}
	b := begun(t, 2, nil)
	became := func(o api.Op, want int) {
		t.Helper()
		wantInt(t, o, b.must(t, o), want)
		wantQueue(t, b)
	}
	became(join(1, 1), causal.Taken)
	wantOps(t, "Take", b.drain(t), []api.Op{join(1, 1)})
	wantDots(t, "Vector", b.queue.Vector(), vec(1, 1))
	became(join(1, 1), causal.Had)
	became(join(1, 3, 1, 2), causal.Held)
	became(join(2, 1, 1, 3), causal.Held)
	wantDots(t, "Waits", b.queue.Waits(), vec(1, 3, 2, 1))
	wantInt(t, "Free", b.queue.Free(), 0)
	became(join(2, 1, 1, 3), causal.Had)
	became(join(2, 2, 1, 3, 2, 1), causal.Dropped)
	became(join(3, 1, 1, 2), causal.Held)
	wantDots(t, "Waits", b.queue.Waits(), vec(1, 3, 3, 1))
	became(join(1, 2, 1, 1), causal.Taken)
	wantOps(t, "Take", b.drain(t), []api.Op{join(1, 2, 1, 1), join(1, 3, 1, 2), join(3, 1, 1, 2)})
	wantDots(t, "Vector", b.queue.Vector(), vec(1, 3, 3, 1))
	wantInt(t, "Free", b.queue.Free(), 2)
	for _, o := range []api.Op{{}, join(1, 4, 1, 2), join(0, 1), leave(17, 1)} {
		got, err := b.offer(t, o)
		wantErr(t, o, err, api.ErrOp)
		wantInt(t, o, got, 0)
	}
	wantQueue(t, b)
}

// wantNew holds New against what it must be.
func wantNew(t *testing.T, hold int, v api.Vector) {
	t.Helper()
	given := roomy(v, junkDot)
	q, err := causal.New(hold, given)
	want := wantCheck(v)
	if hold>>8 != 0 && hold != 256 {
		want = api.ErrArg
	}
	wantErr(t, v, err, want)
	wantUnchanged(t, "New", given, v)
	if (q == nil) != (err != api.OK) {
		t.Errorf("New(%d, %v): %v, %d", hold, v, q, int(err))
	}
	spoil(given, junkDot)
	if q == nil {
		return
	}
	b := both{q, modelled(hold, v)}
	wantQueue(t, b)
	wantInt(t, "Free", q.Free(), hold)
	if l := b.drain(t); len(l) > 0 {
		t.Errorf("New(%d, %v): Take: %v", hold, v, l)
	}
}

// TestNew: P13.1: of holds about all limits; of all lists of up to three Dots, right ones and such as offend in each way and in several at once; of both together.
func TestNew(t *testing.T) {
	pieces := cross([]int{0, 1, 2, api.MaxSites, api.MaxSites + 1}, []int{-1, 0, 1, api.MaxSeq, api.MaxSeq + 1})
	lists := []api.Vector{nil, {}}
	for at := 1; at < len(lists); at++ {
		wantNew(t, at%4, lists[at])
		if len(lists[at]) < 2 {
			for _, hold := range append(edges, api.MaxHold-1) {
				wantNew(t, hold, lists[at])
			}
		}
		for _, p := range pieces {
			if len(lists[at]) < 3 {
				lists = append(lists, append(slices.Clone(lists[at]), p))
			}
		}
	}
	for _, d := range cross(edges, edges) {
		wantNew(t, 0, api.Vector{d})
		wantNew(t, api.MaxHold, api.Vector{dot(7, 7), d})
	}
	for _, seq := range []int{1, api.MaxSeq} {
		all := each(func(int) int { return seq })
		wantNew(t, 3, all)
		wantNew(t, 3, append(all, dot(api.MaxSites, 1)))
		wantNew(t, 3, append(all, dot(api.MaxSites+1, 1)))
	}
	wantNew(t, 1, make(api.Vector, 100000))
}

// TestNewErrors: P13.1: what each thing comes to, written out, two at once too.
func TestNewErrors(t *testing.T) {
	for _, x := range []struct {
		hold int
		v    api.Vector
		want api.Errno
	}{
		{0, nil, api.OK}, {256, nil, api.OK}, {255, vec(1, 5, 3, 2), api.OK}, {-1, nil, api.ErrArg}, {257, nil, api.ErrArg}, {math.MinInt, nil, api.ErrArg}, {math.MaxInt, nil, api.ErrArg}, {1 << 32, nil, api.ErrArg},
		{1, vec(0, 1), api.ErrArg}, {1, vec(17, 1), api.ErrArg}, {1, vec(1, 0), api.ErrForm}, {1, vec(1, api.MaxSeq+1), api.ErrForm}, {1, vec(1, 1, 1, 2), api.ErrOrder}, {1, vec(2, 1, 1, 1), api.ErrOrder},
		// Two at once: the hold's error comes first; of a list the first Dot's.
		{-1, vec(1, 0), api.ErrArg}, {257, vec(2, 1, 1, 1), api.ErrArg}, {-1, vec(0, 1), api.ErrArg}, {math.MinInt, vec(1, math.MaxInt), api.ErrArg}, {0, vec(1, 0, 0, 1), api.ErrForm}, {0, vec(2, 1, 1, 1, 3, 0), api.ErrOrder}, {0, vec(2, 1, 1, 0), api.ErrForm},
	} {
		q, err := causal.New(x.hold, x.v)
		wantErr(t, x, err, x.want)
		if (q == nil) != (x.want != api.OK) {
			t.Errorf("%v: %v", x, q)
		}
	}
}

// TestNil: P13.5: nothing happens to a nil Queue, whatever it is offered.
func TestNil(t *testing.T) {
	var q *causal.Queue
	for range 2 {
		for _, o := range append(rich(), api.Op{}, leave(1, 1), leave(1, 2, 1, 1), leave(0, 1), leave(1, 3)) {
			if became, err := q.Offer(o); became != 0 || err != api.ErrArg {
				t.Errorf("Offer: %d, %d", became, int(err))
			}
		}
		if o, ok := q.Take(); ok || !same(o, api.Op{}) {
			t.Errorf("Take: %+v, %v", o, ok)
		}
		if q.Waits() != nil || q.Vector() != nil || q.Free() != 0 {
			t.Errorf("%v, %v, %d", q.Waits(), q.Vector(), q.Free())
		}
	}
}

// TestNoRoom: a zero Queue has room for none that wait, and nothing was delivered; so it is behind New with a hold of 0: what cannot be delivered is dropped.
func TestNoRoom(t *testing.T) {
	for _, b := range []both{{&causal.Queue{}, modelled(0, nil)}, {new(causal.Queue), modelled(0, nil)}, begun(t, 0, nil), begun(t, 0, api.Vector{})} {
		wantQueue(t, b)
		if o, ok := b.take(t); ok {
			t.Errorf("Take: %+v", o)
		}
		for _, x := range []struct {
			o    api.Op
			want int
		}{
			{leave(1, 2, 1, 1), causal.Dropped}, {leave(1, 2, 1, 1), causal.Dropped}, {leave(2, 1, 1, 1), causal.Dropped}, {made(api.OpInsert, 1, 1), causal.Taken}, {leave(1, 1), causal.Had},
			{leave(1, 3, 1, 2), causal.Dropped}, {leave(1, 2, 1, 1), causal.Taken}, {leave(2, 1, 1, 3), causal.Dropped}, {leave(1, 3, 1, 2), causal.Taken}, {leave(2, 1, 1, 3), causal.Taken}, {leave(16, 1, 2, 2), causal.Dropped},
		} {
			wantInt(t, x, b.must(t, x.o), x.want)
			wantQueue(t, b)
		}
		_, err := b.offer(t, api.Op{})
		wantErr(t, "no operation", err, api.ErrOp)
		wantInt(t, "Free", b.queue.Free(), 0)
		wantDots(t, "Take", dotsIn(b.drain(t)), vec(1, 1, 1, 2, 1, 3, 2, 1))
		wantQueue(t, b)
	}
}

// TestOfferOne: P13.2: what becomes of each offer, written out, behind a queue with one place left, of which {1 6, 2 1, 3 2} was delivered and 1.9, 5.2 and 4.1 wait.
func TestOfferOne(t *testing.T) {
	full := api.MaxSeq
	bad := func(turn func(o *api.Op), o api.Op) api.Op {
		turn(&o)
		return o
	}
	withSite := func(o *api.Op) { o.Site = 1 }
	badText := func(o *api.Op) { o.Text = "\xff" }
	for _, x := range []struct {
		o    api.Op
		want int
	}{
		// The next one of each site, whatever it depends on, as long as that is there.
		{leave(1, 7, 1, 6), causal.Taken}, {leave(1, 7, 1, 6, 2, 1, 3, 2), causal.Taken}, {leave(1, 7, 1, 6, 3, 1), causal.Taken}, {leave(2, 2, 2, 1), causal.Taken}, {leave(2, 2, 1, 1, 2, 1, 3, 1), causal.Taken},
		{leave(3, 3, 3, 2), causal.Taken}, {leave(3, 3, 1, 6, 3, 2), causal.Taken}, {leave(16, 1), causal.Taken}, {leave(7, 1, 1, 6, 2, 1, 3, 2), causal.Taken}, {leave(5, 1, 2, 1), causal.Taken},
		{made(api.OpInsert, 1, 7, 1, 6), causal.Taken}, {made(api.OpDelete, 6, 1, 3, 2), causal.Taken}, {made(api.OpJoin, 2, 2, 2, 1), causal.Taken},
		// There already: one that came, the last one of the base, earlier ones; with other Deps and of another kind too.
		{leave(1, 6, 1, 5), causal.Had}, {leave(2, 1), causal.Had}, {leave(2, 1, 1, 6, 3, 2), causal.Had}, {leave(1, 5, 1, 4), causal.Had}, {leave(1, 1), causal.Had}, {leave(3, 2, 3, 1), causal.Had}, {made(api.OpInsert, 3, 1), causal.Had},
		{leave(2, 1, 9, 9), causal.Had}, {leave(1, 1, 2, full), causal.Had},
		// It waits already; with other Deps, of another kind, and though this one could be delivered or would be the farthest.
		{leave(1, 9, 1, 8), causal.Had}, {leave(1, 9, 1, 8, 3, 2), causal.Had}, {made(api.OpJoin, 1, 9, 1, 8), causal.Had}, {leave(5, 2, 5, 1), causal.Had}, {made(api.OpInsert, 5, 2, 5, 1, 9, 9), causal.Had},
		{leave(4, 1, 2, 2), causal.Had}, {leave(4, 1), causal.Had}, {leave(4, 1, 1, 6), causal.Had}, {leave(4, 1, 1, full, 16, full), causal.Had},
		// One too high, of each site; far too high.
		{leave(1, 8, 1, 7), causal.Held}, {leave(2, 3, 2, 2), causal.Held}, {leave(3, 4, 3, 3), causal.Held}, {leave(4, 2, 4, 1), causal.Held}, {leave(1, full, 1, full-1), causal.Held}, {leave(16, full, 16, full-1), causal.Held},
		// Deps that are not there, by one, of each site.
		{leave(2, 2, 1, 7, 2, 1), causal.Held}, {leave(1, 7, 1, 6, 2, 2), causal.Held}, {leave(1, 7, 1, 6, 3, 3), causal.Held}, {leave(1, 7, 1, 6, 4, 1), causal.Held}, {leave(5, 1, 6, 1), causal.Held}, {leave(5, 1, 1, full), causal.Held},
		// No operations: nothing, a number of another one's, a Seq that its Deps do not say.
		{api.Op{}, 0}, {leave(0, 1), 0}, {leave(17, 1), 0}, {leave(-1, 1), 0}, {leave(6, 0), 0}, {leave(6, -1), 0}, {leave(1, 7), 0}, {leave(1, 7, 1, 5), 0}, {leave(1, 7, 1, 7), 0}, {leave(1, 7, 2, 1, 1, 6), 0},
		{leave(1, 7, 0, 1, 1, 6), 0}, {leave(1, 7, 1, 6, 17, 1), 0}, {leave(1, 7, 1, 6, 2, 0), 0}, {leave(6, full+1, 6, full), 0}, {made(0, 6, 1), 0}, {made(5, 6, 1), 0}, {made(-1, 6, 1), 0}, {made(math.MaxInt, 6, 1), 0},
		{bad(withSite, leave(6, 1)), 0}, {bad(badText, made(api.OpInsert, 6, 1)), 0},
		// Both at once: it is no operation, and is there already, waits, comes too early, or depends on what is not there.
		{bad(withSite, leave(1, 6, 1, 5)), 0}, {bad(withSite, leave(1, 9, 1, 8)), 0}, {bad(withSite, leave(1, 8, 1, 7)), 0}, {bad(withSite, leave(6, 1, 5, 1)), 0}, {bad(badText, made(api.OpInsert, 1, 8, 1, 7)), 0},
		{leave(1, 8, 1, 6), 0}, {leave(1, 6, 1, 6), 0}, {leave(1, 9, 1, 9), 0}, {leave(1, 7, 1, 5, 4, 9), 0}, {made(9, 2, 9, 2, 8), 0}, {leave(6, 1, 8, 1, 7, 1), 0},
	} {
		b := begun(t, 4, vec(1, 5, 3, 2), leave(1, 9, 1, 8), leave(5, 2, 5, 1, 9, 1), leave(4, 1, 2, 2), leave(1, 6, 1, 5), made(api.OpDelete, 2, 1, 1, 6, 3, 2))
		wantDots(t, "Waits", b.queue.Waits(), vec(1, 9, 4, 1, 5, 2))
		became, err := b.offer(t, x.o)
		wantInt(t, x.o, became, x.want)
		if (err == api.ErrOp) != (x.want == 0) {
			t.Errorf("%+v: %d", x.o, int(err))
		}
		wantQueue(t, b)
		if x.want == causal.Taken || x.want == causal.Held {
			wantInt(t, "the same again", b.must(t, x.o), causal.Had)
		}
		b.must(t, leave(9, 1, 1, 6))
		wantQueue(t, b)
		b.drain(t)
		if t.Failed() {
			return
		}
	}
}

// numbersOf is all numbers that an operation has, where they stand.
func numbersOf(o *api.Op) []*int {
	l := []*int{&o.Kind, &o.Dot.Site, &o.Dot.Seq, &o.ID.Time, &o.ID.Site, &o.Ref.Time, &o.Ref.Site, &o.Site}
	for i := range o.Deps {
		l = append(l, &o.Deps[i].Site, &o.Deps[i].Seq)
	}
	for i := range o.Gone {
		l = append(l, &o.Gone[i].ID.Time, &o.Gone[i].ID.Site, &o.Gone[i].Count)
	}
	return l
}

// TestOfferTurned: P13.2, W1, W3: each number of an operation of each kind turned, one and two at a time, about each limit.
func TestOfferTurned(t *testing.T) {
	seen := map[int]int{}
	b := richQueue(t)
	try := func(o api.Op) {
		became, err := b.offer(t, o)
		seen[became]++
		wantQueue(t, b)
		if err == api.OK && became != causal.Had {
			b = richQueue(t)
		}
	}
	for _, o := range []api.Op{made(api.OpInsert, 1, 3, 1, 2, 16, 3), made(api.OpDelete, 2, 4, 1, 2, 2, 3), made(api.OpJoin, 3, 1, 2, 3), made(api.OpLeave, 16, 2, 1, 2, 16, 1)} {
		for i := range numbersOf(&o) {
			for _, n := range edges {
				one := clone(o)
				*numbersOf(&one)[i] = n
				try(one)
				for k := range i {
					for _, m := range []int{math.MinInt, 0, 1, 2, 4, 5, 17, math.MaxInt} {
						two := clone(one)
						*numbersOf(&two)[k] = m
						try(two)
					}
				}
			}
			if t.Failed() {
				return
			}
		}
	}
	for _, became := range []int{0, causal.Taken, causal.Held, causal.Had} {
		if seen[became] < 20 {
			t.Errorf("%d came %d times alone", became, seen[became])
		}
	}
}

// about is every vector of these sites whose Seqs are 0 to most.
func about(most int, sites ...int) []api.Vector {
	all := []api.Vector{nil}
	for _, site := range sites {
		for _, v := range all[:len(all):len(all)] {
			for seq := 1; seq <= most; seq++ {
				all = append(all, append(slices.Clone(v), dot(site, seq)))
			}
		}
	}
	return all
}

// TestOfferGrid: P13.2: every Dot with all Deps about what was delivered, behind queues with and without room, of which some wait.
func TestOfferGrid(t *testing.T) {
	seen := map[int]int{}
	waiting := []api.Op{leave(1, 3, 1, 2), leave(3, 1, 1, 2, 2, 1), leave(2, 3, 2, 2), leave(3, 2, 2, 2, 3, 1)}
	for hold := range 4 {
		for count := range len(waiting) + 1 {
			for _, d := range cross([]int{1, 2, 3}, []int{1, 2, 3, 4}) {
				for _, deps := range about(3, 1, 2, 3) {
					b := begun(t, hold, vec(1, 1), waiting[:count]...)
					became, _ := b.offer(t, api.Op{Kind: api.OpLeave, Dot: d, Deps: deps})
					seen[became]++
					wantQueue(t, b)
					b.drain(t)
				}
				if t.Failed() {
					return
				}
			}
		}
	}
	for became := range 5 {
		if seen[became] < 50 {
			t.Errorf("%d came %d times alone", became, seen[became])
		}
	}
}

// TestSetFree: P13.2: what one delivery sets free: one behind the other, several at once, in the order in which they were offered; each time the first one of all, be it ahead of the one that set it free.
func TestSetFree(t *testing.T) {
	for _, x := range []struct {
		waits []api.Op
		comes api.Op
		want  []api.Dot
		left  []api.Dot
	}{
		// None is set free, and one alone.
		{[]api.Op{leave(1, 3, 1, 2), leave(2, 1, 3, 1)}, leave(1, 1), vec(1, 1), vec(1, 3, 2, 1)},
		{[]api.Op{leave(1, 3, 1, 2), leave(2, 1, 1, 1)}, leave(1, 1), vec(1, 1, 2, 1), vec(1, 3)},
		// One behind the other, offered backwards and forwards.
		{[]api.Op{leave(1, 4, 1, 3), leave(1, 3, 1, 2), leave(1, 2, 1, 1)}, leave(1, 1), vec(1, 1, 1, 2, 1, 3, 1, 4), nil},
		{[]api.Op{leave(1, 2, 1, 1), leave(1, 3, 1, 2), leave(1, 4, 1, 3)}, leave(1, 1), vec(1, 1, 1, 2, 1, 3, 1, 4), nil},
		{[]api.Op{leave(4, 1, 3, 1), leave(3, 1, 2, 1), leave(2, 1, 1, 1)}, leave(1, 1), vec(1, 1, 2, 1, 3, 1, 4, 1), nil},
		// Several at one delivery, in the order of the offers, whatever their Sites and their Sums.
		{[]api.Op{leave(4, 1, 1, 1), leave(2, 1, 1, 1), leave(3, 1, 1, 1)}, leave(1, 1), vec(1, 1, 4, 1, 2, 1, 3, 1), nil},
		{[]api.Op{leave(2, 1, 1, 1), leave(4, 1, 1, 1), leave(3, 1, 1, 1)}, leave(1, 1), vec(1, 1, 2, 1, 4, 1, 3, 1), nil},
		{[]api.Op{leave(2, 1, 1, 1, 5, 7), leave(1, 2, 1, 1, 5, 7), leave(3, 1, 1, 1)}, leave(1, 1, 5, 6), vec(1, 1, 2, 1, 1, 2, 3, 1), nil},
		// The one that is set free by another one goes ahead of what was offered later, though that can be delivered as well.
		{[]api.Op{leave(2, 1, 3, 1), leave(3, 1, 1, 1), leave(4, 1, 1, 1)}, leave(1, 1), vec(1, 1, 3, 1, 2, 1, 4, 1), nil},
		{[]api.Op{leave(3, 1, 1, 1), leave(2, 1, 3, 1), leave(4, 1, 1, 1)}, leave(1, 1), vec(1, 1, 3, 1, 2, 1, 4, 1), nil},
		{[]api.Op{leave(7, 1, 2, 1), leave(2, 1, 3, 1), leave(4, 1, 1, 1), leave(3, 1, 1, 1)}, leave(1, 1), vec(1, 1, 4, 1, 3, 1, 2, 1, 7, 1), nil},
		// What needs two things comes as soon as both are there; what needs one thing more stays.
		{[]api.Op{leave(4, 1, 2, 1, 3, 1), leave(2, 1, 1, 1), leave(7, 1, 6, 1), leave(3, 1, 1, 1)}, leave(1, 1), vec(1, 1, 2, 1, 3, 1, 4, 1), vec(7, 1)},
		{[]api.Op{leave(4, 1, 1, 1, 6, 1), leave(1, 2, 1, 1)}, leave(1, 1), vec(1, 1, 1, 2), vec(4, 1)},
	} {
		b := begun(t, 4, vec(5, 7))
		for _, o := range x.waits {
			wantInt(t, o, b.must(t, o), causal.Held)
			wantQueue(t, b)
		}
		if o, ok := b.take(t); ok {
			t.Errorf("%+v came of what waits", o)
		}
		wantInt(t, x.comes, b.must(t, x.comes), causal.Taken)
		wantQueue(t, b)
		wantDots(t, "Waits", b.queue.Waits(), x.left)
		wantInt(t, "Free", b.queue.Free(), 4-len(x.left))
		wantDots(t, "Take", dotsIn(b.drain(t)), x.want)
		for _, o := range append(x.waits, x.comes) {
			wantInt(t, o, b.must(t, o), causal.Had)
		}
		wantQueue(t, b)
	}
}

// TestFarthest: P13.2: which one is dropped, written out: by the Sum of its Deps, of these by its Site, of these by its Seq, the offered one or another; nothing else counts.
func TestFarthest(t *testing.T) {
	for _, x := range []struct {
		waits []api.Op
		comes api.Op
		want  int
		left  []api.Dot
	}{
		// The Sum: of the offered one greater, less, and in the midst.
		{[]api.Op{leave(1, 2, 1, 1)}, leave(1, 3, 1, 2), causal.Dropped, vec(1, 2)},
		{[]api.Op{leave(1, 3, 1, 2)}, leave(1, 2, 1, 1), causal.Held, vec(1, 2)},
		{[]api.Op{leave(1, 2, 1, 1), leave(1, 4, 1, 3)}, leave(1, 3, 1, 2), causal.Held, vec(1, 2, 1, 3)},
		{[]api.Op{leave(1, 4, 1, 3), leave(1, 2, 1, 1)}, leave(1, 3, 1, 2), causal.Held, vec(1, 2, 1, 3)},
		{[]api.Op{leave(1, 4, 1, 3), leave(1, 5, 1, 4), leave(1, 3, 1, 2)}, leave(1, 2, 1, 1), causal.Held, vec(1, 2, 1, 3, 1, 4)},
		// The Sum counts ahead of the Site and of the Seq, and is that of all Deps.
		{[]api.Op{leave(16, 2, 16, 1)}, leave(1, 1, 2, 2), causal.Dropped, vec(16, 2)},
		{[]api.Op{leave(1, 1, 2, 2)}, leave(16, 2, 16, 1), causal.Held, vec(16, 2)},
		{[]api.Op{leave(1, 6, 1, 5)}, leave(2, 1, 1, 3, 3, 3), causal.Dropped, vec(1, 6)},
		{[]api.Op{leave(1, 6, 1, 5)}, leave(2, 1, 1, 2, 3, 2), causal.Held, vec(2, 1)},
		{[]api.Op{leave(2, 1, 3, 1, 4, 1, 5, 1)}, leave(1, 3, 1, 2), causal.Held, vec(1, 3)},
		// What is there already counts in the Sum as well.
		{[]api.Op{leave(1, 2, 1, 1)}, leave(2, 1, 3, 1, 9, 4), causal.Dropped, vec(1, 2)},
		{[]api.Op{leave(2, 1, 3, 1, 9, 4)}, leave(1, 2, 1, 1), causal.Held, vec(1, 2)},
		// Equal Sums: the Site.
		{[]api.Op{leave(1, 2, 1, 1)}, leave(2, 1, 3, 1), causal.Dropped, vec(1, 2)},
		{[]api.Op{leave(2, 1, 3, 1)}, leave(1, 2, 1, 1), causal.Held, vec(1, 2)},
		{[]api.Op{leave(2, 2, 2, 1), leave(16, 1, 3, 1)}, leave(3, 2, 3, 1), causal.Held, vec(2, 2, 3, 2)},
		{[]api.Op{leave(4, 1, 3, 1), leave(2, 2, 2, 1)}, leave(3, 2, 3, 1), causal.Held, vec(2, 2, 3, 2)},
		{[]api.Op{leave(4, 1, 3, 1), leave(2, 2, 2, 1)}, leave(5, 1, 3, 1), causal.Dropped, vec(2, 2, 4, 1)},
		// The Site counts ahead of the Seq.
		{[]api.Op{leave(1, 4, 1, 3)}, leave(2, 1, 3, 3), causal.Dropped, vec(1, 4)},
		{[]api.Op{leave(2, 1, 3, 3)}, leave(1, 4, 1, 3), causal.Held, vec(1, 4)},
		// Equal Sums and Sites: the Seq.
		{[]api.Op{leave(1, 3, 1, 2, 2, 5)}, leave(1, 4, 1, 3, 2, 4), causal.Dropped, vec(1, 3)},
		{[]api.Op{leave(1, 4, 1, 3, 2, 4)}, leave(1, 3, 1, 2, 2, 5), causal.Held, vec(1, 3)},
		{[]api.Op{leave(1, 2, 1, 1, 2, 6), leave(1, 4, 1, 3, 2, 4), leave(1, 1, 2, 7)}, leave(1, 3, 1, 2, 2, 5), causal.Held, vec(1, 1, 1, 2, 1, 3)},
		// Sums that 32 bits do not hold.
		{[]api.Op{leave(1, 1, 2, api.MaxSeq, 3, api.MaxSeq, 4, 2)}, leave(5, 1, 6, 1), causal.Held, vec(5, 1)},
		{[]api.Op{leave(5, 1, 6, 1)}, leave(1, 1, 2, api.MaxSeq, 3, api.MaxSeq, 4, 2), causal.Dropped, vec(5, 1)},
	} {
		b := begun(t, len(x.waits), vec(9, 4), x.waits...)
		wantInt(t, "Free", b.queue.Free(), 0)
		wantInt(t, x.comes, b.must(t, x.comes), x.want)
		wantDots(t, "Waits", b.queue.Waits(), x.left)
		wantInt(t, "Free", b.queue.Free(), 0)
		wantQueue(t, b)
		if o, ok := b.take(t); ok {
			t.Errorf("Take: %+v", o)
		}
	}
}

// TestFarthestAll: P13.2: all rows of five of eight operations that wait for one thing, by any hold; what is left comes in the order of the offers as soon as that thing is there.
func TestFarthestAll(t *testing.T) {
	pool := []api.Op{
		leave(1, 1, 9, 1), leave(2, 1, 9, 1), leave(2, 2, 2, 1, 9, 1), leave(1, 2, 1, 1, 9, 1),
		leave(1, 3, 1, 2, 9, 1), leave(3, 1, 2, 1, 9, 1), leave(3, 2, 3, 1, 9, 1), leave(2, 3, 1, 1, 2, 2, 9, 1),
	}
	seen := map[int]int{}
	for hold := range 5 {
		for _, row := range orders(len(pool)) {
			if !slices.IsSorted(row[5:]) {
				continue // each row of five once
			}
			b := begun(t, hold, nil)
			for _, i := range row[:5] {
				seen[b.must(t, pool[i])]++
				wantDots(t, "Waits", b.queue.Waits(), b.model.dots())
			}
			wantInt(t, "what all wait for", b.must(t, leave(9, 1)), causal.Taken)
			wantQueue(t, b)
			b.drain(t)
			if t.Failed() {
				t.Fatalf("%d: %v", hold, row)
			}
		}
	}
	if seen[causal.Held] < 1000 || seen[causal.Dropped] < 1000 {
		t.Errorf("%v", seen)
	}
}

// TestReplaced: P13.2: the one that takes another one's place waits as the last one.
func TestReplaced(t *testing.T) {
	b := begun(t, 2, nil, leave(2, 1, 1, 1, 9, 1), leave(3, 1, 1, 1))
	wantInt(t, "the nearer one", b.must(t, leave(2, 1, 1, 1)), causal.Had)
	wantInt(t, "another", b.must(t, leave(1, 2, 1, 1)), causal.Held)
	wantDots(t, "Waits", b.queue.Waits(), vec(1, 2, 3, 1))
	// What was dropped is known no more.
	wantInt(t, "what was dropped", b.must(t, leave(2, 1, 1, 1, 9, 1)), causal.Dropped)
	wantInt(t, "the same Dot, nearer", b.must(t, leave(2, 1, 1, 1)), causal.Held)
	wantDots(t, "Waits", b.queue.Waits(), vec(1, 2, 2, 1))
	b.must(t, leave(1, 1))
	wantDots(t, "Take", dotsIn(b.drain(t)), vec(1, 1, 1, 2, 2, 1))
	wantQueue(t, b)
}

// TestTake: P13.3: what was delivered is taken one by one, whatever is offered between, until there is nothing, and again when there is.
func TestTake(t *testing.T) {
	all := rich()
	for times := range 4 {
		b := begun(t, 8, richBase())
		var came []api.Op
		for _, i := range []int{7, 0, 6, 2, 5, 1, 4, 3} {
			b.must(t, all[i])
			wantQueue(t, b)
			for range times {
				if o, ok := b.take(t); ok {
					came = append(came, o)
				}
				wantQueue(t, b)
			}
		}
		came = append(came, b.drain(t)...)
		wantInt(t, "how many came", len(came), len(all))
		wantCausal(t, richBase(), came)
		wantDots(t, "Waits", b.queue.Waits(), nil)
		b.must(t, leave(3, 1))
		wantOps(t, "Take when there is something again", b.drain(t), []api.Op{leave(3, 1)})
	}
}

// TestLimits: P13.2: the last Seqs there are, of all sites, in both orders.
func TestLimits(t *testing.T) {
	near := each(func(int) int { return api.MaxSeq - 2 })
	full := each(func(int) int { return api.MaxSeq })
	b := begun(t, api.MaxSites, near)
	second := func(site int) api.Op {
		deps := each(func(of int) int {
			if of == site {
				return api.MaxSeq - 1
			}
			return api.MaxSeq - 2
		})
		return api.Op{Kind: api.OpLeave, Dot: dot(site, api.MaxSeq), Deps: deps}
	}
	for site := 1; site <= api.MaxSites; site++ {
		wantInt(t, site, b.must(t, second(site)), causal.Held)
		wantQueue(t, b)
	}
	for site := 1; site <= api.MaxSites; site++ {
		o := api.Op{Kind: api.OpLeave, Dot: dot(site, api.MaxSeq-1), Deps: near}
		wantInt(t, site, b.must(t, o), causal.Taken)
		wantInt(t, site, b.must(t, o), causal.Had)
		wantInt(t, site, b.must(t, second(site)), causal.Had)
		wantInt(t, "Free", b.queue.Free(), site)
		_, err := b.offer(t, leave(site, api.MaxSeq+1, site, api.MaxSeq))
		wantErr(t, "beyond the last one", err, api.ErrOp)
		wantQueue(t, b)
	}
	wantDots(t, "Vector", b.queue.Vector(), full)
	wantInt(t, "how many came", len(b.drain(t)), 2*api.MaxSites)
}

// TestMany: P13.2, P13.7: as many as may wait at all do, offered backwards and of all sites; the farthest go as others come, and all that is left is set free at once.
func TestMany(t *testing.T) {
	b := begun(t, api.MaxHold, nil)
	for seq := api.MaxHold + 1; seq > 1; seq-- {
		o := made(1+seq%4, 5, seq, 5, seq-1)
		if seq == 2 {
			o = leave(5, seq, 5, seq-1)
		}
		wantInt(t, seq, b.must(t, o), causal.Held)
		wantInt(t, "Free", b.queue.Free(), seq-2)
	}
	wantQueue(t, b)
	wantInt(t, "one too far", b.must(t, leave(5, 300, 5, 299)), causal.Dropped)
	wantInt(t, "a nearer one", b.must(t, leave(16, 1, 5, 1)), causal.Held)
	wantInt(t, "what it took the place of", b.must(t, leave(5, 257, 5, 256)), causal.Dropped)
	wantQueue(t, b)
	wantInt(t, "what all wait for", b.must(t, leave(5, 1)), causal.Taken)
	wantQueue(t, b)
	wantInt(t, "Free", b.queue.Free(), api.MaxHold)
	wantInt(t, "how many came", len(b.drain(t)), api.MaxHold+1)
	wantDots(t, "Vector", b.queue.Vector(), vec(5, 256, 16, 1))
}
