package front_test

import (
	"math/rand"
	"slices"
	"testing"

	"hearsay/api"
)

// said is what a site says that it has.
type said struct {
	site int
	have api.Vector
}

// saying is a front that heard these, by their places in a list, one after the other.
func saying(t *testing.T, list []said, places []int) both {
	t.Helper()
	b := begun()
	for _, i := range places {
		wantErr(t, list[i], b.hear(t, list[i].site, list[i].have), api.OK)
	}
	return b
}

// wantAlike holds that two fronts tell the same of all sites.
func wantAlike(t *testing.T, about any, one, two both) {
	t.Helper()
	for site := 1; site <= api.MaxSites; site++ {
		rowOne, okOne := one.front.Row(site)
		rowTwo, okTwo := two.front.Row(site)
		if okOne != okTwo {
			t.Errorf("%v: %d: %v; %v", about, site, okOne, okTwo)
		}
		wantVector(t, about, rowOne, rowTwo)
		wantVector(t, about, one.front.Usable(site), two.front.Usable(site))
	}
}

// TestAnyOrder: P14.8: what is heard in every order of few, once, twice in a row, and twice over, leads to the same rows, and to the same usable ones behind one settling.
func TestAnyOrder(t *testing.T) {
	lists := [][]said{
		{{2, vec(1, 3)}, {2, vec(1, 1, 2, 4)}, {2, vec(2, 5)}, {2, nil}, {2, vec(1, 2, 16, 1)}},
		{{2, vec(1, 3)}, {3, vec(1, 1, 2, 4)}, {2, vec(2, 5)}, {3, vec(1, 2)}, {7, nil}},
		{{1, vec(1, api.MaxSeq)}, {1, vec(1, 1, 2, api.MaxSeq)}, {1, vec(3, 7)}, {16, vec(3, 6, 4, 1)}, {16, vec(3, 8)}},
		{{4, vec(1, 1)}, {4, vec(1, 2)}, {4, vec(1, 3)}, {4, vec(1, 4)}, {4, vec(1, 5)}},
	}
	owns := []api.Vector{nil, vec(1, 3, 2, 5, 16, 1), vec(1, 3, 2, 4), vec(1, 5), each(func(int) int { return api.MaxSeq })}
	for _, list := range lists {
		for _, own := range owns {
			first := saying(t, list, []int{0, 1, 2, 3, 4})
			first.settle(t, own)
			for _, order := range orders(len(list)) {
				var doubled []int
				for _, i := range order {
					doubled = append(doubled, i, i)
				}
				for _, places := range [][]int{order, doubled, slices.Concat(order, order)} {
					b := saying(t, list, places)
					b.settle(t, own)
					wantAlike(t, places, b, first)
				}
			}
			first.wantFront(t)
			if t.Failed() {
				return
			}
		}
	}
}

// TestAnyOrderMany: P14.8: the same of more that is heard, by chance.
func TestAnyOrderMany(t *testing.T) {
	chance := rand.New(rand.NewSource(148))
	for range 200 {
		var list []said
		for range 5 + chance.Intn(30) {
			list = append(list, said{1 + chance.Intn(4), someVector(chance, 4, 9)})
		}
		one, two := saying(t, list, chance.Perm(len(list))), saying(t, list, append(chance.Perm(len(list)), chance.Perm(len(list))...))
		own := someVector(chance, 4, 15)
		one.settle(t, own)
		two.settle(t, own)
		wantAlike(t, list, one, two)
		one.wantFront(t)
		if t.Failed() {
			return
		}
	}
}

// someVector is a vector by chance, of the first sites and of the last ones, whose Seqs are most at most.
func someVector(chance *rand.Rand, sites, most int) api.Vector {
	return each(func(site int) int {
		if site > sites && site <= api.MaxSites-sites/2 || chance.Intn(4) == 0 {
			return 0
		}
		return chance.Intn(most + 1)
	})
}

// someList is a list by chance, right or, seldom, wrong.
func someList(chance *rand.Rand, sites, most int) api.Vector {
	v := someVector(chance, sites, most)
	if len(v) == 0 || chance.Intn(10) > 0 {
		return v
	}
	d := &v[chance.Intn(len(v))]
	if chance.Intn(2) == 0 {
		d.Site = edges[chance.Intn(len(edges))]
	} else {
		d.Seq = edges[chance.Intn(len(edges))]
	}
	return v
}

// someSite is a site by chance, seldom none.
func someSite(chance *rand.Rand, sites int) int {
	if chance.Intn(12) == 0 {
		return edges[chance.Intn(len(edges))]
	}
	return 1 + chance.Intn(sites)
}

// step does one call by chance twice over, and says which and how it ended.
func (b both) step(t *testing.T, chance *rand.Rand, sites, most int) string {
	t.Helper()
	switch chance.Intn(4) {
	case 0:
		own := someList(chance, sites, most+2)
		before := len(b.model.past)
		if b.settle(t, own); len(b.model.past) == before {
			return "settled by no vector"
		}
		return "settled"
	case 1:
		var members []int
		for range chance.Intn(5) {
			members = append(members, someSite(chance, sites))
		}
		if len(b.frontier(t, members, someSite(chance, sites), someList(chance, sites, most+2))) > 0 {
			return "a frontier"
		}
		return "no frontier"
	default:
		if b.hear(t, someSite(chance, sites), someList(chance, sites, most)) != api.OK {
			return "refused"
		}
		return "heard"
	}
}

// TestScripts: P14.1 to P14.7, W3: calls by chance, each held against what it must do, with all rows behind each.
func TestScripts(t *testing.T) {
	chance := rand.New(rand.NewSource(14))
	seen := map[string]int{}
	ahead := 0
	for range 400 {
		b := begun()
		sites, most := 1+chance.Intn(4), 1+chance.Intn(6)
		for range 40 {
			seen[b.step(t, chance, sites, most)]++
			b.wantFront(t)
			for site := range sites + 1 {
				if row, _ := b.model.row(site); len(b.last[site]) > 0 && !slices.Equal(row, b.last[site]) {
					ahead++
				}
			}
		}
		if t.Failed() {
			return
		}
	}
	for _, what := range []string{"heard", "refused", "settled", "settled by no vector", "a frontier", "no frontier"} {
		if seen[what] < 200 {
			t.Errorf("%s: %d times alone", what, seen[what])
		}
	}
	if ahead < 500 {
		t.Errorf("a row went ahead of its usable one %d times alone", ahead)
	}
}

// TestGrowing: P14.6: if own only grows from Settle to Settle, it covers all usable rows; and P14.7: then each frontier is covered by the later ones of the same members.
func TestGrowing(t *testing.T) {
	chance := rand.New(rand.NewSource(146))
	for range 200 {
		b := begun()
		var own, frontier api.Vector
		for range 30 {
			b.hear(t, 1+chance.Intn(4), each(func(site int) int { return chance.Intn(says(own, site) + 2) }))
			own = each(func(site int) int { return says(own, site) + max(0, chance.Intn(5)-3) })
			b.settle(t, own)
			b.wantFront(t)
			for site := 1; site <= api.MaxSites; site++ {
				if !covers(own, b.front.Usable(site)) {
					t.Errorf("%v does not cover what is usable of %d: %v", own, site, b.front.Usable(site))
				}
			}
			now := b.frontier(t, []int{1, 2, 3, 4}, 9, own)
			if !covers(now, frontier) {
				t.Errorf("the frontier was %v, and is %v", frontier, now)
			}
			frontier = now
		}
		if t.Failed() {
			return
		}
	}
}

// TestFewCalls: P14.1 to P14.7: all rows of few calls, right ones and wrong ones.
func TestFewCalls(t *testing.T) {
	hear := func(site int, have ...int) func(b both) {
		return func(b both) { b.hear(t, site, vec(have...)) }
	}
	settle := func(own ...int) func(b both) { return func(b both) { b.settle(t, vec(own...)) } }
	calls := []func(b both){
		hear(1, 1, 2), hear(2), hear(2, 1, 1), hear(2, 1, 2, 2, 1), hear(2, 2, 2), hear(0, 1, 1), hear(2, 2, 1, 1, 9),
		settle(), settle(1, 1), settle(1, 2, 2, 1), settle(1, 2, 2, 2), settle(2, 9, 1, 9),
	}
	rows := [][]int{nil}
	for at := 0; at < len(rows); at++ {
		b := begun()
		for _, i := range rows[at] {
			calls[i](b)
		}
		b.wantFront(t)
		b.frontier(t, []int{1, 2}, 1, vec(1, 2, 2, 1))
		b.frontier(t, []int{2, 1}, 3, vec(1, 1, 2, 2))
		if t.Failed() {
			t.Fatalf("%v", rows[at])
		}
		for i := range calls {
			if len(rows[at]) < 4 {
				rows = append(rows, append(slices.Clone(rows[at]), i))
			}
		}
	}
}

// TestInTurns: W2, W6: two fronts in turns, which know nothing of one another; and what one tells of a site the other one hears.
func TestInTurns(t *testing.T) {
	chance := rand.New(rand.NewSource(142))
	for range 60 {
		one, two := begun(), rich(t)
		for range 30 {
			if chance.Intn(2) == 0 {
				one.step(t, chance, 3, 4)
			} else {
				two.step(t, chance, 3, 4)
			}
			one.wantFront(t)
			two.wantFront(t)
		}
		if t.Failed() {
			return
		}
	}
	one, two := rich(t), begun()
	for site := 1; site <= api.MaxSites; site++ {
		if row, ok := one.front.Row(site); ok {
			two.hear(t, site, row)
			got, _ := two.front.Row(site)
			again, _ := one.front.Row(site)
			wantVector(t, site, got, again)
		}
	}
	one.wantFront(t)
	two.wantFront(t)
}

// TestCopied: W8: a front that is copied as a value goes on as the copy, a zero one too.
func TestCopied(t *testing.T) {
	for _, b := range []both{rich(t), begun()} {
		other := *b.front
		b.front = &other
		b.wantFront(t)
		b.must(t, 5, 2, 2)
		b.must(t, 8, 1, 1)
		b.settle(t, each(func(int) int { return 10 }))
		b.wantFront(t)
	}
}
