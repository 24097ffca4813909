package front_test

import (
	"math"
	"slices"
	"testing"

	"hearsay/api"
	"hearsay/front"
)

func dot(site, seq int) api.Dot { return api.Dot{Site: site, Seq: seq} }

// vec is the list of these Sites and Seqs, one behind the other.
func vec(numbers ...int) api.Vector {
	var v api.Vector
	for pair := range slices.Chunk(numbers, 2) {
		v = append(v, dot(pair[0], pair[1]))
	}
	return v
}

// edges is numbers about each limit there is.
var edges = []int{
	math.MinInt, math.MinInt + 1, -api.MaxSeq - 1, -api.MaxSites, -1, 0, 1, 2, 3, 7, api.MaxSites - 1, api.MaxSites, api.MaxSites + 1,
	api.MaxSeq - 1, api.MaxSeq, api.MaxSeq + 1, 1 << 32, 1<<32 + 1, math.MaxInt - 1, math.MaxInt,
}

// noVectors is lists of all manners that are no vectors; what some of them say covers all that the tests hear.
func noVectors() []api.Vector {
	all := slices.Clip(each(func(int) int { return api.MaxSeq }))
	return []api.Vector{
		vec(0, 1), vec(17, 1), vec(-1, 1), vec(1, 0), vec(1, -1), vec(1, api.MaxSeq+1), vec(math.MaxInt, math.MaxInt), vec(math.MinInt, math.MinInt), vec(2, 1, 1, 1), vec(1, 1, 1, 1), vec(1, 99, 1, 98),
		append(all, dot(17, 1)), append(all, dot(16, 1)), append(all, dot(3, 0)), append(api.Vector{{}}, all...), append(all, all...), vec(2, 99, 1, 99), vec(1, 99, 2, 99, 0, 0), vec(1, 99, 2, 99, 3, 0),
		make(api.Vector, 100000),
	}
}

// cross is the Dots of all these Sites with all these Seqs.
func cross(sites, seqs []int) []api.Dot {
	var l []api.Dot
	for _, site := range sites {
		for _, seq := range seqs {
			l = append(l, dot(site, seq))
		}
	}
	return l
}

// about is every vector of these sites whose Seqs are 0 to most.
func about(most int, sites ...int) []api.Vector {
	all := []api.Vector{nil}
	for _, site := range sites {
		for _, v := range all[:len(all):len(all)] {
			for seq := 1; seq <= most; seq++ {
				all = append(all, append(slices.Clone(v), dot(site, seq)))
			}
		}
	}
	return all
}

// orders is all orders of the numbers below n.
func orders(n int) [][]int {
	if n == 0 {
		return [][]int{nil}
	}
	var all [][]int
	for _, row := range orders(n - 1) {
		for at := range n {
			all = append(all, slices.Insert(slices.Clone(row), at, n-1))
		}
	}
	return all
}

// rich is a front of several rows: of 2, whose row is usable; of 3, which said more since then; of 5, whose row never was usable; of 7, which said that it has nothing, and of 16.
func rich(t *testing.T) both {
	t.Helper()
	b := begun()
	b.must(t, 2, 1, 3, 2, 4)
	b.must(t, 3, 1, 5, 3, 2)
	b.must(t, 7)
	b.must(t, 16, 1, 5, 2, 1, 16, 9)
	b.settle(t, vec(1, 6, 2, 4, 3, 2, 16, 9))
	b.must(t, 3, 2, 9, 3, 3)
	b.must(t, 5, 1, 1, 5, 8)
	b.wantFront(t)
	return b
}

// TestExamples: all rows of the chapter's examples.
func TestExamples(t *testing.T) {
	b := begun()
	b.must(t, 2, 1, 3)
	b.must(t, 2, 1, 1, 2, 4)
	b.wantRow(t, 2, vec(1, 3, 2, 4), nil)
	b.wantUnheard(t, 3)
	b.settle(t, vec(1, 3, 2, 3))
	b.wantRow(t, 2, vec(1, 3, 2, 4), nil)
	b.settle(t, vec(1, 3, 2, 4))
	b.wantRow(t, 2, vec(1, 3, 2, 4), vec(1, 3, 2, 4))
	b.must(t, 2, 1, 9)
	b.settle(t, vec(1, 8, 2, 9))
	b.wantRow(t, 2, vec(1, 9, 2, 4), vec(1, 3, 2, 4))
	own := vec(1, 8, 2, 9)
	b.wantFrontier(t, []int{1, 2}, 1, own, 1, 3, 2, 4)
	b.wantFrontier(t, []int{1, 2, 3}, 1, own)
	b.wantFrontier(t, []int{1}, 1, own, 1, 8, 2, 9)
	b.wantFrontier(t, nil, 1, own, 1, 8, 2, 9)
	wantErr(t, "site 0", b.hear(t, 0, nil), api.ErrArg)
	wantErr(t, "site 17", b.hear(t, 17, nil), api.ErrArg)
	wantErr(t, "sites that fall", b.hear(t, 3, vec(2, 1, 1, 1)), api.ErrOrder)
	b.wantFront(t)
	b.wantUnheard(t, 3)
}

// wantNothing holds that of a front no site was heard.
func wantNothing(t *testing.T, b both) {
	t.Helper()
	for _, site := range edges {
		b.wantUnheard(t, site)
	}
	b.wantFront(t)
	own := vec(1, 5, 2, 7)
	b.wantFrontier(t, nil, 1, own, 1, 5, 2, 7)
	b.wantFrontier(t, []int{1}, 1, own, 1, 5, 2, 7)
	b.wantFrontier(t, []int{1, 2}, 1, own)
}

// TestNew: P14.1: of a new Front and of a zero one no site was heard, whatever is asked, settled and refused; then both hear as any other one.
func TestNew(t *testing.T) {
	for _, f := range []*front.Front{front.New(), {}, new(front.Front)} {
		b := both{f, &model{}, map[int]api.Vector{}}
		wantNothing(t, b)
		b.settle(t, vec(1, 9, 2, 9))
		b.settle(t, nil)
		wantErr(t, "no site", b.hear(t, 0, nil), api.ErrArg)
		wantErr(t, "no vector", b.hear(t, 1, vec(1, 0)), api.ErrForm)
		wantNothing(t, b)
		b.must(t, 1, 1, 1)
		b.wantRow(t, 1, vec(1, 1), nil)
		b.settle(t, vec(1, 2))
		b.wantRow(t, 1, vec(1, 1), vec(1, 1))
		b.wantFront(t)
	}
	if front.New() == front.New() {
		t.Errorf("two new fronts are one")
	}
}

// TestNil: W8: nothing happens to a nil Front.
func TestNil(t *testing.T) {
	var f *front.Front
	for range 2 {
		for _, site := range edges {
			for _, have := range append(noVectors(), nil, vec(1, 1), vec(1, 5, 3, 2)) {
				wantErr(t, site, f.Hear(site, have), api.ErrArg)
				f.Settle(have)
				if v := f.Frontier([]int{site}, 1, have); v != nil {
					t.Errorf("Frontier: %v", v)
				}
				if v := f.Frontier(nil, site, have); v != nil {
					t.Errorf("Frontier: %v", v)
				}
			}
			if v, ok := f.Row(site); v != nil || ok {
				t.Errorf("Row: %v, %v", v, ok)
			}
			if v := f.Usable(site); v != nil {
				t.Errorf("Usable: %v", v)
			}
		}
	}
}

// TestHearErrors: P14.2, W4: what each thing comes to, written out, two at once too.
func TestHearErrors(t *testing.T) {
	for _, x := range []struct {
		site int
		have api.Vector
		want api.Errno
	}{
		{1, nil, api.OK}, {1, api.Vector{}, api.OK}, {16, nil, api.OK}, {1, vec(1, 1), api.OK}, {16, vec(1, 5, 3, 2), api.OK}, {5, vec(16, api.MaxSeq), api.OK}, {2, vec(1, 1), api.OK},
		{0, nil, api.ErrArg}, {-1, nil, api.ErrArg}, {17, nil, api.ErrArg}, {math.MinInt, vec(1, 1), api.ErrArg}, {math.MaxInt, vec(1, 1), api.ErrArg}, {1<<32 + 1, nil, api.ErrArg}, {-api.MaxSites, nil, api.ErrArg},
		{1, vec(0, 1), api.ErrArg}, {1, vec(17, 1), api.ErrArg}, {1, vec(-1, 1), api.ErrArg}, {1, vec(1, 0), api.ErrForm}, {1, vec(1, -1), api.ErrForm}, {1, vec(1, api.MaxSeq+1), api.ErrForm},
		{1, vec(1, 1, 1, 2), api.ErrOrder}, {1, vec(2, 1, 1, 1), api.ErrOrder}, {1, vec(1, 1, 2, 0), api.ErrForm}, {1, vec(1, 1, 17, 1), api.ErrArg},
		// Two at once: the site's error comes first; of a list the first Dot's.
		{0, vec(1, 0), api.ErrArg}, {17, vec(2, 1, 1, 1), api.ErrArg}, {-1, vec(1, api.MaxSeq+1), api.ErrArg}, {0, vec(0, 1), api.ErrArg}, {math.MaxInt, vec(1, 1, 1, 1), api.ErrArg}, {math.MinInt, vec(1, math.MinInt), api.ErrArg},
		{1, vec(1, 0, 0, 1), api.ErrForm}, {1, vec(2, 1, 1, 1, 3, 0), api.ErrOrder}, {1, vec(2, 1, 1, 0), api.ErrForm}, {1, vec(0, 0), api.ErrArg},
	} {
		for _, b := range []both{begun(), rich(t)} {
			wantErr(t, x, b.hear(t, x.site, x.have), x.want)
			b.wantFront(t)
		}
	}
}

// TestHear: P14.2, W1, W3: of sites about all limits, with all lists of up to three Dots, right ones and such as offend in each way and in several at once; what is refused changes nothing, and makes no site one that was heard of.
func TestHear(t *testing.T) {
	pieces := cross([]int{0, 1, 2, api.MaxSites, api.MaxSites + 1}, []int{-1, 0, 1, api.MaxSeq, api.MaxSeq + 1})
	lists := []api.Vector{nil}
	for at := 0; at < len(lists); at++ {
		for _, site := range []int{0, 1, 2, 3, 16, 17} {
			b := begun()
			if site == 2 {
				b.must(t, 2, 1, 2)
			}
			b.hear(t, site, lists[at])
			if len(lists[at]) < 3 {
				b.wantFront(t)
				continue
			}
			if _, ok := b.front.Row(site); ok != (site == 2 || wantCheck(lists[at]) == api.OK && site > 0 && site < 17) {
				t.Errorf("%d, %v: %v", site, lists[at], ok)
			}
		}
		if t.Failed() {
			return
		}
		for _, p := range pieces {
			if len(lists[at]) < 3 {
				lists = append(lists, append(slices.Clone(lists[at]), p))
			}
		}
	}
	b := rich(t)
	for _, d := range cross(edges, edges) {
		for _, site := range edges {
			b.hear(t, site, api.Vector{d})
			b.hear(t, site, api.Vector{dot(7, 7), d})
		}
		b.wantFront(t)
		if len(b.model.past) > 100 {
			b = rich(t)
		}
	}
	for _, v := range noVectors() {
		for _, site := range []int{-1, 1, 2, 16, 17} {
			b.hear(t, site, v)
		}
		b.wantFront(t)
	}
}

// TestHearFirst: P14.1, P14.2: a site is heard of as soon as it says anything, that it has nothing too; no other one is.
func TestHearFirst(t *testing.T) {
	for site := 1; site <= api.MaxSites; site++ {
		for _, have := range []api.Vector{nil, {}, vec(1, 1), vec(16, api.MaxSeq), each(func(of int) int { return of })} {
			b := begun()
			b.wantUnheard(t, site)
			wantErr(t, have, b.hear(t, site, have), api.OK)
			b.wantRow(t, site, have, nil)
			b.wantFront(t)
			b.settle(t, have)
			b.wantRow(t, site, have, have)
			b.wantFront(t)
		}
	}
}

// TestHearAgain: P14.2: with less, more, the same, other sites, and nothing: what it was or what it says now.
func TestHearAgain(t *testing.T) {
	for _, x := range []struct{ now, want api.Vector }{
		{nil, vec(2, 5, 4, 3)}, {vec(2, 5, 4, 3), vec(2, 5, 4, 3)}, {vec(2, 4), vec(2, 5, 4, 3)}, {vec(2, 1, 4, 1), vec(2, 5, 4, 3)}, {vec(2, 6), vec(2, 6, 4, 3)}, {vec(4, 4), vec(2, 5, 4, 4)}, {vec(2, 7, 4, 9), vec(2, 7, 4, 9)},
		{vec(2, 9, 4, 1), vec(2, 9, 4, 3)}, {vec(2, 1, 4, 8), vec(2, 5, 4, 8)}, {vec(1, 1), vec(1, 1, 2, 5, 4, 3)}, {vec(3, 2), vec(2, 5, 3, 2, 4, 3)}, {vec(16, api.MaxSeq), vec(2, 5, 4, 3, 16, api.MaxSeq)},
		{vec(1, 1, 2, 9, 3, 1, 4, 1, 5, 1), vec(1, 1, 2, 9, 3, 1, 4, 3, 5, 1)},
	} {
		for _, settled := range []bool{false, true} {
			b := begun()
			b.must(t, 9, 2, 5, 4, 3)
			b.must(t, 2, 1, 1)
			usable := api.Vector(nil)
			if settled {
				usable = vec(2, 5, 4, 3)
				b.settle(t, usable)
			}
			for range 2 {
				wantErr(t, x, b.hear(t, 9, x.now), api.OK)
				b.wantRow(t, 9, x.want, usable)
				b.wantRow(t, 2, vec(1, 1), nil)
				b.wantFront(t)
			}
		}
	}
	pairs := about(3, 1, 8, 16)
	for _, one := range pairs {
		for _, two := range pairs {
			b := begun()
			b.hear(t, 4, one)
			b.hear(t, 4, two)
			want, _ := b.model.row(4)
			b.wantRow(t, 4, want, nil)
		}
	}
}

// TestRow: P14.4: of sites that were heard of, that were not, and that are none.
func TestRow(t *testing.T) {
	b := rich(t)
	for range 2 {
		b.wantRow(t, 2, vec(1, 3, 2, 4), vec(1, 3, 2, 4))
		b.wantRow(t, 3, vec(1, 5, 2, 9, 3, 3), vec(1, 5, 3, 2))
		b.wantRow(t, 5, vec(1, 1, 5, 8), nil)
		b.wantRow(t, 7, nil, nil)
		b.wantRow(t, 16, vec(1, 5, 2, 1, 16, 9), vec(1, 5, 2, 1, 16, 9))
		for _, site := range []int{math.MinInt, -16, -2, -1, 0, 1, 4, 6, 8, 15, 17, 18, 1<<32 + 2, math.MaxInt} {
			b.wantUnheard(t, site)
		}
	}
	b.wantFront(t)
}

// TestSettle: P14.3: by vectors that cover all rows, some, none, and one by just one less, written out.
func TestSettle(t *testing.T) {
	for _, x := range []struct {
		own  api.Vector
		want []int // the sites whose rows are usable then
	}{
		{nil, nil}, {vec(1, 2), nil}, {vec(3, 7, 9, 9), nil}, {vec(1, 2, 2, 5), []int{2}}, {vec(1, 2, 2, 4), nil}, {vec(1, 3, 2, 4), []int{4}}, {vec(1, 1, 2, 5), nil}, {vec(2, 5), nil}, {vec(1, 3, 2, 6), []int{2, 4}},
		{vec(1, 3), []int{4}}, {vec(1, 3, 2, 5), []int{2, 4}}, {vec(16, 1), []int{16}}, {vec(16, api.MaxSeq), []int{16}}, {vec(1, 2, 16, 1), []int{16}}, {vec(1, 3, 16, 1), []int{4, 16}}, {vec(1, 2, 2, 5, 16, 1), []int{2, 16}},
		{vec(1, 3, 2, 5, 16, 1), []int{2, 4, 16}}, {vec(1, 4, 2, 6, 3, 1, 16, 2), []int{2, 4, 16}}, {each(func(int) int { return api.MaxSeq }), []int{2, 4, 16}},
	} {
		b := begun()
		b.must(t, 2, 1, 2, 2, 5)
		b.must(t, 4, 1, 3)
		b.must(t, 7)
		b.must(t, 16, 16, 1)
		for range 2 {
			b.settle(t, x.own)
			b.wantFront(t)
			for site, row := range map[int]api.Vector{2: vec(1, 2, 2, 5), 4: vec(1, 3), 16: vec(16, 1)} {
				want := row
				if !slices.Contains(x.want, site) {
					want = nil
				}
				b.wantRow(t, site, row, want)
			}
			b.wantRow(t, 7, nil, nil)
		}
	}
}

// TestSettleNoVector: P14.3: by what is no vector nothing happens, though what it says covers every row.
func TestSettleNoVector(t *testing.T) {
	for _, own := range noVectors() {
		b := rich(t)
		b.settle(t, own)
		b.wantRow(t, 2, vec(1, 3, 2, 4), vec(1, 3, 2, 4))
		b.wantRow(t, 3, vec(1, 5, 2, 9, 3, 3), vec(1, 5, 3, 2))
		b.wantRow(t, 5, vec(1, 1, 5, 8), nil)
		b.wantFront(t)
	}
	b := rich(t)
	for _, d := range cross(edges, edges) {
		b.settle(t, api.Vector{d})
		b.settle(t, api.Vector{dot(7, 7), d})
		b.wantFront(t)
		if len(b.model.past) > 60 {
			b = rich(t)
		}
	}
}

// TestSettleOver: P14.3, P14.6: again and again, by less than before too, with what is heard between: a usable row stays as long as its row is ahead of what is covered, and goes up at once then.
func TestSettleOver(t *testing.T) {
	b := begun()
	b.must(t, 3, 1, 4)
	for _, x := range []struct {
		heard, own, usable api.Vector
	}{
		{nil, vec(1, 3), nil}, {nil, vec(1, 4), vec(1, 4)}, {nil, vec(1, 4), vec(1, 4)}, {nil, vec(1, 3), vec(1, 4)}, {nil, nil, vec(1, 4)},
		{vec(1, 6), vec(1, 5), vec(1, 4)}, {vec(1, 5), vec(1, 5), vec(1, 4)}, {vec(2, 1), vec(1, 6), vec(1, 4)}, {nil, vec(2, 9), vec(1, 4)}, {nil, vec(1, 6, 2, 1), vec(1, 6, 2, 1)},
		{vec(1, 1), nil, vec(1, 6, 2, 1)}, {vec(16, api.MaxSeq), vec(1, 9, 2, 9, 16, api.MaxSeq-1), vec(1, 6, 2, 1)}, {nil, vec(1, 9, 2, 9, 16, api.MaxSeq), vec(1, 6, 2, 1, 16, api.MaxSeq)},
	} {
		b.hear(t, 3, x.heard)
		b.settle(t, x.own)
		row, _ := b.model.row(3)
		b.wantRow(t, 3, row, x.usable)
		b.wantFront(t)
	}
}

// TestSettleGrid: P14.3: every row of few numbers settled by every vector of few, and by another one; what is said between makes the row go ahead or not.
func TestSettleGrid(t *testing.T) {
	few := about(2, 1, 5)
	for _, row := range few {
		for _, first := range few {
			for _, more := range few {
				for _, second := range few {
					b := begun()
					b.hear(t, 2, row)
					b.hear(t, 5, first)
					b.settle(t, first)
					b.hear(t, 2, more)
					b.settle(t, second)
					b.wantFront(t)
				}
			}
		}
		if t.Failed() {
			return
		}
	}
}

// TestFrontier: P14.5: of no members, of self alone and among others, of members twice, of such as are no sites or were never heard of, of an own of all kinds, written out.
func TestFrontier(t *testing.T) {
	b := rich(t)
	own := vec(1, 4, 2, 2, 3, 1, 16, 12)
	for _, x := range []struct {
		members []int
		self    int
		own     api.Vector
		want    api.Vector
	}{
		{nil, 1, own, own}, {[]int{}, 99, own, own}, {[]int{1}, 1, own, own}, {[]int{1, 1, 1}, 1, own, own}, {nil, 0, own, own}, {nil, 1, nil, nil}, {nil, 1, api.Vector{}, nil},
		// One other, with self and without it, whose row has more, less, and other sites.
		{[]int{2}, 1, own, vec(1, 3, 2, 2)}, {[]int{1, 2}, 1, own, vec(1, 3, 2, 2)}, {[]int{2, 1}, 1, own, vec(1, 3, 2, 2)}, {[]int{2, 2, 1, 2}, 1, own, vec(1, 3, 2, 2)}, {[]int{16}, 1, own, vec(1, 4, 2, 1, 16, 9)},
		{[]int{3}, 1, own, vec(1, 4, 3, 1)}, {[]int{2}, 1, vec(1, 1), vec(1, 1)}, {[]int{2}, 1, vec(3, 9), nil}, {[]int{2}, 1, nil, nil}, {[]int{2}, 1, vec(1, 9, 2, 9, 3, 9), vec(1, 3, 2, 4)}, {[]int{2}, 1, vec(2, api.MaxSeq), vec(2, 4)},
		// Several.
		{[]int{2, 3}, 1, own, vec(1, 3)}, {[]int{2, 16}, 1, own, vec(1, 3, 2, 1)}, {[]int{3, 16}, 1, own, vec(1, 4)}, {[]int{16, 3, 2, 1}, 1, own, vec(1, 3)}, {[]int{3, 16, 3, 2, 16}, 4, own, vec(1, 3)},
		// The row of self does not count, be it usable or not, whether there are others or not.
		{[]int{2}, 2, own, own}, {[]int{2, 16}, 2, own, vec(1, 4, 2, 1, 16, 9)}, {[]int{2, 16}, 16, own, vec(1, 3, 2, 2)}, {[]int{5}, 5, own, own}, {[]int{5, 2}, 5, own, vec(1, 3, 2, 2)}, {[]int{7}, 7, own, own}, {[]int{2, 2, 3}, 2, own, vec(1, 4, 3, 1)},
		// Never usable, nothing said, never heard of, no site.
		{[]int{5}, 1, own, nil}, {[]int{2, 5}, 1, own, nil}, {[]int{7}, 1, own, nil}, {[]int{7, 16}, 1, own, nil}, {[]int{4}, 1, own, nil}, {[]int{1, 2, 4}, 1, own, nil}, {[]int{1}, 2, own, nil}, {[]int{1, 2}, 2, own, nil},
		{[]int{0}, 1, own, nil}, {[]int{17}, 1, own, nil}, {[]int{-1}, 1, own, nil}, {[]int{2, math.MinInt}, 1, own, nil}, {[]int{math.MaxInt, 2}, 1, own, nil}, {[]int{1<<32 + 2}, 1, own, nil},
		// A self that is no site has no row that counts either.
		{[]int{0}, 0, own, own}, {[]int{17, 2}, 17, own, vec(1, 3, 2, 2)}, {[]int{math.MinInt}, math.MinInt, own, own}, {[]int{math.MaxInt, 17}, math.MaxInt, own, nil}, {[]int{2}, 0, own, vec(1, 3, 2, 2)},
		// A self that is not among the members: its row counts for nothing.
		{[]int{2}, 5, own, vec(1, 3, 2, 2)}, {[]int{2}, 3, own, vec(1, 3, 2, 2)},
	} {
		wantVector(t, x, b.frontier(t, x.members, x.self, x.own), x.want)
	}
	b.wantFront(t)
}

// TestFrontierNoVector: P14.5: of an own that is no vector it is empty, whoever the members are.
func TestFrontierNoVector(t *testing.T) {
	b := rich(t)
	for _, own := range noVectors() {
		for _, members := range [][]int{nil, {1}, {2}, {1, 2, 3}, {16, 2}, {0}} {
			b.wantFrontier(t, members, 1, own)
			b.wantFrontier(t, members, 2, own)
		}
	}
	for _, d := range cross(edges, edges) {
		for _, members := range [][]int{nil, {2}, {16, 1, 3}} {
			b.frontier(t, members, 1, api.Vector{d})
			b.frontier(t, members, 1, api.Vector{dot(7, 7), d})
		}
	}
	b.wantFront(t)
}

// TestFrontierMembers: P14.5, P14.7: all sets of few members in every order, also with one of them twice: the order makes no difference, and one member more never makes it more.
func TestFrontierMembers(t *testing.T) {
	b := rich(t)
	pool := []int{2, 3, 16, 1, 7, 0, 5, 4, 17}
	for _, own := range []api.Vector{nil, vec(1, 4, 2, 2, 3, 1, 16, 12), vec(1, 9, 2, 9, 3, 9, 16, 9), vec(1, 1)} {
		for set := range 1 << len(pool) {
			var members []int
			for i, member := range pool {
				if set>>i&1 == 1 {
					members = append(members, member)
				}
			}
			if len(members) > 4 {
				continue
			}
			for _, self := range []int{1, 2, 0} {
				want := b.frontier(t, members, self, own)
				for _, order := range orders(len(members)) {
					var row []int
					for _, i := range order {
						row = append(row, members[i])
					}
					wantVector(t, row, b.front.Frontier(row, self, own), want)
					if len(row) > 0 {
						wantVector(t, row, b.front.Frontier(append(row, row[0]), self, own), want)
					}
				}
				for _, member := range pool {
					more := b.frontier(t, append(slices.Clone(members), member), self, own)
					if !covers(want, more) {
						t.Errorf("%v: %v; with %d: %v", members, want, member, more)
					}
				}
			}
		}
		if t.Failed() {
			return
		}
	}
}

// TestFrontierGrid: P14.5, P14.7: all usable rows of two sites of few numbers, by every own of few.
func TestFrontierGrid(t *testing.T) {
	few := about(2, 1, 16)
	for _, one := range few {
		for _, two := range few {
			b := begun()
			b.hear(t, 2, one)
			b.hear(t, 3, two)
			b.settle(t, vec(1, 2, 16, 2))
			b.must(t, 3, 1, 7)
			for _, own := range few {
				for _, members := range [][]int{nil, {2}, {3}, {2, 3}, {3, 2, 1}, {3, 2, 4}} {
					for _, self := range []int{1, 2, 3} {
						b.frontier(t, members, self, own)
					}
				}
			}
		}
	}
}

// TestFull: P14.2 to P14.5: all sites heard of, with all that there can be.
func TestFull(t *testing.T) {
	full, near := each(func(int) int { return api.MaxSeq }), each(func(int) int { return api.MaxSeq - 1 })
	var members []int
	b := begun()
	for site := 1; site <= api.MaxSites; site++ {
		members = append(members, site)
		b.hear(t, site, near)
	}
	b.settle(t, near)
	b.wantFront(t)
	wantVector(t, "the frontier", b.frontier(t, members, 4, full), near)
	for site := 1; site <= api.MaxSites; site++ {
		b.hear(t, site, full)
	}
	b.settle(t, near)
	wantVector(t, "the frontier", b.frontier(t, members, 4, full), near)
	b.settle(t, full)
	b.wantFront(t)
	wantVector(t, "the frontier", b.frontier(t, members, 4, full), full)
	wantVector(t, "the frontier", b.frontier(t, members, 4, near), near)
	b.wantFrontier(t, append(members, 17), 4, full)
}

// TestLong: W1: of lists of any length, and of very many calls.
func TestLong(t *testing.T) {
	b := rich(t)
	own := vec(1, 4, 2, 2, 3, 1, 16, 12)
	members := make([]int, 300000)
	for i := range members {
		members[i] = []int{2, 16, 1}[i%3]
	}
	b.wantFrontier(t, members, 1, own, 1, 3, 2, 1)
	for i := range members {
		members[i] = (i - len(members)/2) * 3333333
	}
	wantVector(t, "members that are none", b.front.Frontier(members, 1, own), nil)
	for i := range members {
		members[i] = 5
	}
	b.wantFrontier(t, members, 5, own, 1, 4, 2, 2, 3, 1, 16, 12)
	f := front.New()
	for i := 1; i <= 200000; i++ {
		site := 1 + i%api.MaxSites
		if f.Hear(site, vec(site, i)) != api.OK {
			t.Fatalf("Hear: %d", i)
		}
		if i%100 == 0 {
			f.Settle(each(func(int) int { return i }))
		}
	}
	for site := 1; site <= api.MaxSites; site++ {
		wantVector(t, site, f.Usable(site), vec(site, 200000-(api.MaxSites+1-site)%api.MaxSites))
	}
}
