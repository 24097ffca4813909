package causal_test

import (
	"math/rand"
	"slices"
	"testing"

	"hearsay/api"
	"hearsay/causal"
)

// shape is a closed set, in causal order, and the vector of its first ones, with which a queue may begin.
type shape struct {
	began api.Vector
	ops   []api.Op
}

// shapes is such sets: one site's alone, several that know nothing of one another, and all manner of what depends on what.
func shapes() []shape {
	row := []api.Op{leave(1, 1), made(api.OpInsert, 1, 2, 1, 1), leave(1, 3, 1, 2), made(api.OpDelete, 1, 4, 1, 3)}
	apart := []api.Op{leave(1, 1), leave(2, 1), leave(3, 1), leave(16, 1)}
	fork := []api.Op{leave(1, 1), leave(2, 1, 1, 1), made(api.OpJoin, 3, 1, 1, 1), leave(1, 2, 1, 1, 2, 1, 3, 1)}
	braid := []api.Op{leave(2, 1), leave(1, 1, 2, 1), leave(2, 2, 1, 1, 2, 1), leave(1, 2, 1, 1, 2, 2)}
	mixed := []api.Op{leave(3, 1), leave(1, 1), leave(3, 2, 3, 1), leave(1, 2, 1, 1, 3, 1), leave(2, 1, 1, 1, 3, 2)}
	return []shape{
		{nil, row}, {vec(1, 1), row}, {vec(1, 3), row}, {nil, apart}, {vec(2, 1, 16, 1), apart}, {nil, fork}, {vec(1, 1, 3, 1), fork}, {nil, braid}, {vec(1, 1, 2, 2), braid}, {vec(1, 2, 2, 2), braid}, {nil, mixed}, {vec(3, 2), mixed}, {vec(9, 4), mixed},
	}
}

// strangers is operations of other Dots: such as can be delivered, such as depend on those of the sets, and such as never come.
func strangers() []api.Op {
	return []api.Op{leave(5, 1), leave(6, 1, 1, 1), leave(7, 1, 8, 1), leave(5, 3, 5, 2), made(api.OpInsert, 6, 2, 2, 2, 6, 1), leave(15, 9, 1, 7, 15, 8), leave(8, 2, 8, 1)}
}

// wantAll holds that all of a set came that a queue did not begin with, in causal order.
func wantAll(t *testing.T, s shape, came []api.Op) {
	t.Helper()
	wantCausal(t, s.began, came)
	for _, o := range s.ops {
		here := slices.ContainsFunc(came, func(c api.Op) bool { return same(c, o) })
		if here == has(s.began, o.Dot) {
			t.Errorf("%v came: %v, behind %v", o.Dot, here, s.began)
		}
	}
}

// TestOverAndOver: P13.8: closed sets in every order of few, as many times over as they are, by any hold, with others between or not.
func TestOverAndOver(t *testing.T) {
	for at, s := range shapes() {
		for _, order := range orders(len(s.ops)) {
			for hold := range len(s.ops) + 1 {
				for _, others := range [][]api.Op{nil, strangers()} {
					b := begun(t, hold, s.began)
					for n := range len(s.ops) * len(s.ops) {
						b.must(t, s.ops[order[n%len(s.ops)]])
						if len(others) > 0 {
							b.must(t, others[n%len(others)])
						}
					}
					wantQueue(t, b)
					wantAll(t, s, b.drain(t))
					if t.Failed() {
						t.Fatalf("set %d, order %v, hold %d", at, order, hold)
					}
				}
			}
		}
	}
}

// TestOtherOrders: P13.8: each time over in an order of its own: all of a set of three, many of greater ones.
func TestOtherOrders(t *testing.T) {
	three := orders(3)
	ops := []api.Op{leave(1, 1), leave(2, 1, 1, 1), leave(1, 2, 1, 1, 2, 1)}
	for _, one := range three {
		for _, two := range three {
			for _, last := range three {
				for hold := range 3 {
					b := begun(t, hold, nil)
					for _, i := range slices.Concat(one, two, last) {
						b.must(t, ops[i])
					}
					wantQueue(t, b)
					wantAll(t, shape{nil, ops}, b.drain(t))
				}
			}
		}
	}
	chance := rand.New(rand.NewSource(138))
	for range 300 {
		s := someSet(chance, 3+chance.Intn(8))
		b := begun(t, chance.Intn(4), s.began)
		for range len(s.ops) {
			for _, i := range chance.Perm(len(s.ops)) {
				b.must(t, s.ops[i])
				if chance.Intn(4) == 0 {
					b.must(t, strangers()[chance.Intn(4)])
				}
			}
		}
		wantQueue(t, b)
		wantAll(t, s, b.drain(t))
		if t.Failed() {
			return
		}
	}
}

// TestOnce: P13.8: with room for all that are offered once is enough, and of whatever order the same ones come, others too.
func TestOnce(t *testing.T) {
	for at, s := range shapes() {
		for _, others := range [][]api.Op{nil, strangers()[:2], strangers()[2:4]} {
			all := append(slices.Clone(s.ops), others...)
			if len(all) > 6 {
				all = all[:6]
			}
			var want []api.Dot
			for turn, order := range orders(len(all)) {
				b := begun(t, len(all), s.began)
				for _, i := range order {
					if b.must(t, all[i]) == causal.Dropped {
						t.Errorf("%v was dropped", all[i].Dot)
					}
				}
				wantQueue(t, b)
				came := b.drain(t)
				wantAll(t, s, came)
				dots := dotsIn(came)
				slices.SortFunc(dots, func(a, b api.Dot) int { return slices.Compare([]int{a.Site, a.Seq}, []int{b.Site, b.Seq}) })
				if turn == 0 {
					want = dots
				}
				wantDots(t, "what came", dots, want)
				if t.Failed() {
					t.Fatalf("set %d, order %v", at, order)
				}
			}
		}
	}
}

// someSet is a closed set by chance, of five sites, and a vector of first ones of it that is closed as well.
func someSet(chance *rand.Rand, count int) shape {
	var s shape
	var have api.Vector
	first := chance.Intn(count)
	for i := range count {
		if i == first && chance.Intn(2) == 0 {
			s.began = have
		}
		site := []int{1, 2, 3, 9, 16}[chance.Intn(5)]
		o := made(1+chance.Intn(4), site, says(have, site)+1)
		// What a site had is what one of the others had, or all of it, beside its own.
		deps := have
		if i > 0 && chance.Intn(4) > 0 {
			deps = s.ops[chance.Intn(i)].Deps
		}
		for _, own := range s.ops {
			if own.Dot.Site == site {
				deps = merged(deps, own.Deps)
			}
		}
		o.Deps = each(func(of int) int {
			if of == site {
				return o.Dot.Seq - 1
			}
			return says(deps, of)
		})
		s.ops = append(s.ops, o)
		have = merged(have, api.Vector{o.Dot})
	}
	return s
}

// someOp is an operation by chance, right or wrong, about what was delivered.
func someOp(chance *rand.Rand, have api.Vector, sites int) api.Op {
	site := 1 + chance.Intn(sites)
	if chance.Intn(3) == 0 {
		site = api.MaxSites + 1 - site
	}
	seq := max(says(have, site)+[]int{-1, 0, 1, 1, 1, 2, 2, 3, 4}[chance.Intn(9)], 1)
	o := made(1+chance.Intn(4), site, seq)
	o.Deps = each(func(of int) int {
		switch n := says(have, of); {
		case of == site:
			return seq - 1
		case of > sites && of <= api.MaxSites-sites || chance.Intn(3) == 0:
			return 0
		case chance.Intn(6) == 0:
			return n + 1 + chance.Intn(2)
		default:
			return chance.Intn(n + 1)
		}
	})
	if chance.Intn(30) == 0 {
		l := numbersOf(&o)
		*l[chance.Intn(len(l))] = edges[chance.Intn(len(edges))]
	}
	return o
}

// step does one call by chance twice over, and says what became of an offer; -1 of another call.
func (b both) step(t *testing.T, chance *rand.Rand, sites int) int {
	t.Helper()
	if chance.Intn(4) == 0 {
		b.take(t)
		return -1
	}
	became, _ := b.offer(t, someOp(chance, b.model.vector(), sites))
	return became
}

// TestScripts: P13.2 to P13.7, W3: calls by chance, each held against what it must do, with Waits, Free and Vector behind each.
func TestScripts(t *testing.T) {
	chance := rand.New(rand.NewSource(13))
	seen := map[int]int{}
	for range 600 {
		b := begun(t, []int{0, 1, 2, 3, 5, 8, 20}[chance.Intn(7)], []api.Vector{nil, vec(1, 2, 2, 5, 16, 3), each(func(int) int { return 4 })}[chance.Intn(3)])
		sites := 1 + chance.Intn(4)
		for range 60 {
			seen[b.step(t, chance, sites)]++
			wantQueue(t, b)
		}
		b.drain(t)
		wantQueue(t, b)
		if t.Failed() {
			return
		}
	}
	for _, became := range []int{0, causal.Taken, causal.Held, causal.Had, causal.Dropped} {
		if seen[became] < 300 {
			t.Errorf("%d came %d times alone", became, seen[became])
		}
	}
}

// TestShuffled: P13.6 to P13.8: greater closed sets, each operation several times and in any order, by any hold.
func TestShuffled(t *testing.T) {
	chance := rand.New(rand.NewSource(1313))
	for range 150 {
		s := someSet(chance, 10+chance.Intn(40))
		b := begun(t, chance.Intn(12), s.began)
		for range 4 {
			for _, i := range chance.Perm(len(s.ops)) {
				b.must(t, s.ops[i])
				wantQueue(t, b)
				for range chance.Intn(3) {
					b.take(t)
				}
			}
		}
		b.drain(t)
		if t.Failed() {
			return
		}
	}
}

// TestFewCalls: P13.2 to P13.7: all rows of few calls, right ones and wrong ones, by few holds.
func TestFewCalls(t *testing.T) {
	offer := func(o api.Op) func(b both) { return func(b both) { b.offer(t, o) } }
	calls := []func(b both){
		offer(made(api.OpJoin, 1, 1)), offer(made(api.OpInsert, 1, 2, 1, 1)), offer(made(api.OpDelete, 2, 1, 1, 1)), offer(made(api.OpLeave, 2, 1)), offer(made(api.OpLeave, 3, 1, 1, 2)), offer(leave(2, 2, 1, 3, 2, 1)), offer(leave(1, 2)),
		func(b both) { b.take(t) },
	}
	for hold := range 3 {
		rows := [][]int{nil}
		for at := 0; at < len(rows); at++ {
			b := begun(t, hold, nil)
			for _, i := range rows[at] {
				calls[i](b)
			}
			wantQueue(t, b)
			b.drain(t)
			if t.Failed() {
				t.Fatalf("hold %d: %v", hold, rows[at])
			}
			for i := range calls {
				if len(rows[at]) < 4+hold%2 {
					rows = append(rows, append(slices.Clone(rows[at]), i))
				}
			}
		}
	}
}

// TestInTurns: W2, W6: two queues in turns, which know nothing of one another; what one gives the other one takes.
func TestInTurns(t *testing.T) {
	chance := rand.New(rand.NewSource(132))
	for range 60 {
		one, two := begun(t, 3, nil), richQueue(t)
		for range 30 {
			if chance.Intn(2) == 0 {
				one.step(t, chance, 3)
			} else {
				two.step(t, chance, 3)
			}
			wantQueue(t, one)
			wantQueue(t, two)
		}
		if t.Failed() {
			return
		}
	}
	one, two := begun(t, 8, richBase(), rich()...), begun(t, 0, richBase())
	for o, ok := one.queue.Take(); ok; o, ok = one.queue.Take() {
		wantInt(t, o, two.must(t, o), causal.Taken)
	}
	wantDots(t, "Vector", two.queue.Vector(), one.queue.Vector())
	wantOps(t, "Take", two.drain(t), rich())
}

// TestCopied: W8: a queue that is copied as a value goes on as the copy.
func TestCopied(t *testing.T) {
	b := richQueue(t)
	other := *b.queue
	b.queue = &other
	wantQueue(t, b)
	b.must(t, rich()[2])
	wantQueue(t, b)
	b.drain(t)
	wantDots(t, "Vector", b.queue.Vector(), vec(1, 3, 2, 5, 9, 1, 16, 3))
}

// TestLong: W1: very many operations, of which each two come the wrong way round, taken now and then.
func TestLong(t *testing.T) {
	const count = 60000
	q, _ := causal.New(2, nil)
	n := 0
	takeAll := func() {
		for o, ok := q.Take(); ok; o, ok = q.Take() {
			if n++; o.Dot != dot(1, n) {
				t.Fatalf("%v; want %d", o.Dot, n)
			}
		}
	}
	for i := 0; i < count; i += 2 {
		later, err := q.Offer(leave(1, i+2, 1, i+1))
		sooner := leave(1, i+1)
		if i > 0 {
			sooner.Deps = vec(1, i)
		}
		now, errNow := q.Offer(sooner)
		if later != causal.Held || now != causal.Taken || err != api.OK || errNow != api.OK {
			t.Fatalf("%d: %d, %d", i, later, now)
		}
		if i == 40000 {
			takeAll()
		}
	}
	takeAll()
	wantInt(t, "how many came", n, count)
	wantDots(t, "Vector", q.Vector(), vec(1, count))
}
