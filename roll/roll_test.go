package roll_test

import (
	"fmt"
	"math"
	"slices"
	"testing"

	"hearsay/api"
	"hearsay/roll"
)

// TestExamples: all rows of the chapter's examples.
func TestExamples(t *testing.T) {
	b := begun(t)
	b.must(t, join(2), true)
	b.must(t, join(2), false)
	b.must(t, leave(2), true)
	b.must(t, join(2), false)
	b.wantLists(t, nil, []int{2}, []int{2}, 2)
	b.must(t, leave(5), false)
	b.must(t, join(5), false)
	if b.roll.Has(5) || !b.roll.Known(5) || b.roll.Epoch() != 2 {
		t.Errorf("5: %v, %v; the epoch %d", b.roll.Has(5), b.roll.Known(5), b.roll.Epoch())
	}
	b.must(t, join(0), false)
	b.must(t, join(17), false)
	b.must(t, join(1), true)
	b.wantLists(t, []int{1}, []int{1, 2, 5}, []int{2, 5}, 3)
	b.wantRoll(t)
	for _, x := range []struct {
		joined, left []int
		epoch        int
		want         api.Errno
	}{
		{[]int{1, 2, 5}, []int{2, 5}, 3, api.OK}, {[]int{1, 2, 5}, []int{2, 5}, 4, api.ErrForm}, {[]int{1, 2, 5}, []int{2, 5}, 5, api.OK},
		{[]int{2, 1}, nil, 2, api.ErrArg}, {nil, []int{3}, 0, api.OK}, {[]int{1}, nil, -1, api.ErrArg},
	} {
		b, err := load(t, x.joined, x.left, x.epoch)
		wantErr(t, x, err, x.want)
		if err == api.OK {
			b.wantRoll(t)
		}
	}
}

// TestNew: P16.1, W8: a new roll, and a zero one, have nobody; and both are taken up alike.
func TestNew(t *testing.T) {
	for _, r := range []*roll.Roll{roll.New(), {}, new(roll.Roll)} {
		b := both{r, &model{}}
		b.wantRoll(t)
		b.wantLists(t, nil, nil, nil, 0)
		b.must(t, leave(3), false)
		b.must(t, join(16), true)
		b.wantLists(t, []int{16}, []int{16}, []int{3}, 1)
		b.wantRoll(t)
	}
	if roll.New() == roll.New() {
		t.Error("two new rolls are one")
	}
}

// TestNil: W1, W8: to a nil roll nothing happens.
func TestNil(t *testing.T) {
	var r *roll.Roll
	for _, n := range slices.Concat(sites(), edges) {
		if r.Join(n) || r.Leave(n) || r.Has(n) || r.Known(n) {
			t.Errorf("a nil roll knows of %d", n)
		}
	}
	wantTold(t, "a nil roll", tell(r), told{})
}

// TestOneSite: P16.1 to P16.3: each site's calls in all orders, each for the first time and again, with what each answers and tells written out.
func TestOneSite(t *testing.T) {
	for _, site := range sites() {
		one := []int{site}
		b := begun(t)
		b.must(t, join(site), true)
		b.wantLists(t, one, one, nil, 1)
		b.must(t, join(site), false)
		b.wantLists(t, one, one, nil, 1)
		b.must(t, leave(site), true)
		b.wantLists(t, nil, one, one, 2)
		b.must(t, leave(site), false)
		b.must(t, join(site), false)
		b.wantLists(t, nil, one, one, 2)
		b.wantRoll(t)

		b = begun(t)
		b.must(t, leave(site), false)
		b.wantLists(t, nil, nil, one, 0)
		b.must(t, leave(site), false)
		b.wantRoll(t)
		b.must(t, join(site), false)
		b.wantLists(t, nil, one, one, 0)
		b.must(t, join(site), false)
		b.must(t, leave(site), false)
		b.wantLists(t, nil, one, one, 0)
		b.wantRoll(t)
	}
}

// TestHas: P16.3: Has and Known of a site that has joined, has left, did both in either order, and did neither, each of which is asked of by itself.
func TestHas(t *testing.T) {
	b := begun(t, join(1), leave(2), join(4), leave(4), leave(8), join(8), join(15), leave(16))
	for n, want := range map[int][2]bool{
		1: {true, true}, 2: {false, true}, 3: {false, false}, 4: {false, true}, 5: {false, false}, 8: {false, true}, 15: {true, true}, 16: {false, true},
		0: {false, false}, -1: {false, false}, 17: {false, false}, 33: {false, false}, 65: {false, false}, math.MinInt: {false, false}, math.MaxInt: {false, false}, 1<<32 + 1: {false, false},
	} {
		if has, known := b.roll.Has(n), b.roll.Known(n); has != want[0] || known != want[1] {
			t.Errorf("%d: Has %v, Known %v; want %v", n, has, known, want)
		}
	}
	b.wantLists(t, []int{1, 15}, []int{1, 4, 8, 15}, []int{2, 4, 8, 16}, 4)
	b.wantRoll(t)
}

// TestNoSites: P16.2, W1: of numbers that are no sites nothing happens, whoever is there.
func TestNoSites(t *testing.T) {
	all := begun(t)
	for _, site := range sites() {
		all.must(t, join(site), true)
	}
	gone := all.again(t)
	for _, site := range sites() {
		gone.must(t, leave(site), true)
	}
	for _, b := range []both{begun(t), begun(t, join(1), leave(2), join(16)), all, gone} {
		before := tell(b.roll)
		for _, n := range edges {
			if n >= 1 && n <= 16 {
				continue
			}
			for _, c := range []call{join(n), leave(n), leave(n), join(n)} {
				b.must(t, c, false)
			}
			if b.roll.Has(n) || b.roll.Known(n) {
				t.Errorf("%d is no site: Has %v, Known %v", n, b.roll.Has(n), b.roll.Known(n))
			}
		}
		wantTold(t, "no sites", tell(b.roll), before)
	}
}

// TestAllSites: P16.2, P16.3: all sites join, falling, and leave, rising: the lists rise behind each call.
func TestAllSites(t *testing.T) {
	b := begun(t)
	for i := range 16 {
		b.must(t, join(16-i), true)
		b.wantLists(t, sites()[15-i:], sites()[15-i:], nil, i+1)
	}
	for i := range 16 {
		b.must(t, leave(i+1), true)
		b.wantLists(t, sites()[i+1:], sites(), sites()[:i+1], 17+i)
	}
	b.wantRoll(t)
	b.wantLists(t, nil, sites(), sites(), 32)
}

// TestLoad: P16.4, W3, W4: lists of all manners, errors one by one and two at once.
func TestLoad(t *testing.T) {
	type row struct {
		joined, left []int
		epoch        int
		want         api.Errno
	}
	for _, x := range []row{
		{nil, nil, 0, api.OK}, {[]int{}, []int{}, 0, api.OK}, {nil, nil, 1, api.ErrForm}, {nil, nil, 2, api.ErrForm}, {nil, nil, -1, api.ErrArg},
		{[]int{1}, nil, 1, api.OK}, {[]int{16}, nil, 1, api.OK}, {[]int{1}, nil, 0, api.ErrForm}, {[]int{1}, nil, 2, api.ErrForm}, {[]int{1}, nil, 3, api.ErrForm},
		{nil, []int{1}, 0, api.OK}, {nil, []int{16}, 0, api.OK}, {nil, []int{1, 2}, 2, api.ErrForm}, {nil, []int{1}, 1, api.ErrForm},
		{[]int{1}, []int{1}, 0, api.OK}, {[]int{1}, []int{1}, 1, api.ErrForm}, {[]int{1}, []int{1}, 2, api.OK}, {[]int{1}, []int{1}, 4, api.ErrForm},
		{[]int{1}, []int{2}, 1, api.OK}, {[]int{1}, []int{2}, 0, api.ErrForm}, {[]int{1}, []int{2}, 3, api.ErrForm}, {[]int{2}, []int{1}, 3, api.ErrForm},
		{[]int{1, 2, 3}, []int{2, 3, 4}, 5, api.OK}, {[]int{1, 2, 3}, []int{2, 3, 4}, 7, api.ErrForm},
		{[]int{0}, nil, 1, api.ErrArg}, {[]int{17}, nil, 1, api.ErrArg}, {nil, []int{0}, 0, api.ErrArg}, {nil, []int{17}, 0, api.ErrArg}, {[]int{0}, []int{0}, 0, api.ErrArg},
		{[]int{1, 1}, nil, 1, api.ErrArg}, {[]int{1, 1}, nil, 2, api.ErrArg}, {nil, []int{3, 3}, 0, api.ErrArg}, {[]int{3, 2}, nil, 2, api.ErrArg}, {nil, []int{3, 2}, 0, api.ErrArg},
		{[]int{1, 3, 2}, nil, 3, api.ErrArg}, {[]int{2, 3, 1}, nil, 3, api.ErrArg}, {[]int{1, 2, 16, 3}, nil, 4, api.ErrArg}, {[]int{0, 1}, nil, 2, api.ErrArg}, {[]int{16, 17}, nil, 2, api.ErrArg},
		// Two errors at once: that of the lists or of the epoch below 0 is told.
		{[]int{0}, nil, 7, api.ErrArg}, {[]int{2, 1}, nil, 7, api.ErrArg}, {nil, []int{17}, 7, api.ErrArg}, {[]int{1}, []int{2, 2}, 0, api.ErrArg}, {[]int{1}, nil, -2, api.ErrArg},
		{[]int{0}, []int{0}, -1, api.ErrArg}, {[]int{1, 1}, []int{1}, math.MaxInt, api.ErrArg}, {nil, nil, math.MinInt, api.ErrArg},
		{[]int{1}, nil, math.MaxInt, api.ErrForm}, {[]int{1}, []int{1}, math.MaxInt - 1, api.ErrForm}, {[]int{1}, nil, 1<<32 + 1, api.ErrForm}, {nil, nil, 1 << 32, api.ErrForm}, {[]int{1}, nil, 257, api.ErrForm},
		{sites(), nil, 16, api.OK}, {sites(), nil, 15, api.ErrForm}, {nil, sites(), 0, api.OK}, {sites(), sites(), 0, api.OK}, {sites(), sites(), 32, api.OK}, {sites(), sites(), 34, api.ErrForm}, {sites(), sites(), 31, api.ErrForm},
		{append(sites(), 17), nil, 17, api.ErrArg}, {append(sites(), 16), nil, 16, api.ErrArg}, {nil, append(sites(), 1), 0, api.ErrArg}, {append([]int{0}, sites()...), nil, 17, api.ErrArg},
	} {
		b, err := load(t, x.joined, x.left, x.epoch)
		wantErr(t, x, err, x.want)
		if err == api.OK {
			b.wantLists(t, those(func(site int) bool { return slices.Contains(x.joined, site) && !slices.Contains(x.left, site) }), x.joined, x.left, x.epoch)
			b.wantRoll(t)
		}
	}
}

// TestLoadLists: P16.4, W1: all lists of few numbers, sites and others, as joined and as left, with epochs that are right and wrong.
func TestLoadLists(t *testing.T) {
	numbers := []int{-1, 0, 1, 2, 16, 17}
	lists := [][]int{nil}
	for at := 0; at < len(lists); at++ {
		for _, n := range numbers {
			if len(lists[at]) < 3 {
				lists = append(lists, append(slices.Clone(lists[at]), n))
			}
		}
	}
	seen := map[api.Errno]int{}
	for _, joined := range lists {
		for _, left := range lists {
			for _, epoch := range []int{-1, 0, len(joined), len(joined) + 2} {
				// The calls that lead there are sought where the lists are right alone: that takes its time.
				if r, err := roll.Load(joined, left, epoch); right(joined) && right(left) {
					load(t, joined, left, epoch)
					seen[err]++
				} else if r != nil || err != api.ErrArg {
					t.Fatalf("%v: %v, error %d", call3{joined, left, epoch}, r, int(err))
				}
			}
		}
	}
	if seen[api.OK] < 50 || seen[api.ErrForm] < 50 || seen[api.ErrArg] < 50 {
		t.Errorf("%v of the right lists", seen)
	}
}

// TestLoadEdges: P16.4, W1: numbers about each limit, at every place of a list, and as epochs.
func TestLoadEdges(t *testing.T) {
	for _, n := range edges {
		for _, epoch := range []int{0, 1, 3, 4} {
			for at := range 4 {
				list := slices.Insert([]int{2, 3, 5}, at, n)
				load(t, list, nil, epoch)
				load(t, nil, list, epoch)
				load(t, list, list, epoch)
				load(t, []int{1, 4}, list, epoch)
			}
			load(t, []int{n}, []int{epoch}, 1)
		}
		for _, pair := range [][2][]int{{nil, nil}, {{3}, nil}, {nil, {3}}, {{3}, {3}}, {{3, 5}, {4, 5}}, {sites(), sites()}, {sites(), nil}} {
			load(t, pair[0], pair[1], n)
		}
	}
}

// TestLoadLong: P16.4, W1: lists of any length.
func TestLoadLong(t *testing.T) {
	const n = 1 << 20
	rising, same, zero := make([]int, n), make([]int, n), make([]int, n)
	for i := range n {
		rising[i], same[i] = i+1, 7
	}
	for _, list := range [][]int{rising, same, zero, rising[:17], same[:2]} {
		was := slices.Clone(list)
		for _, epoch := range []int{0, 1, 16, n, n + 2} {
			for _, pair := range [][2][]int{{list, nil}, {nil, list}, {list, list}, {sites(), list}} {
				r, err := roll.Load(pair[0], pair[1], epoch)
				wantErr(t, call3{pair[0], pair[1], epoch}, err, api.ErrArg)
				if r != nil {
					t.Errorf("a roll beside an error")
				}
			}
		}
		if !slices.Equal(list, was) {
			t.Error("a long list is another one behind Load")
		}
	}
	b, err := load(t, rising[:16], rising[:16], 8)
	wantErr(t, "all sites", err, api.OK)
	b.wantRoll(t)
}

// TestLoadReached: P16.4: of all pairs of lists of few sites, and all epochs, those that some row of calls leads to are taken, and no others. All that calls lead to is gone through, from a new roll on.
func TestLoadReached(t *testing.T) {
	for _, few := range [][]int{{1, 2, 3}, {1, 8, 16}, {14, 15, 16}} {
		reached := map[string]both{}
		next := []both{begun(t)}
		for len(next) > 0 {
			b := next[0]
			next = next[1:]
			name := fmt.Sprint(b.model.joined(), b.model.left(), b.model.epoch())
			if _, ok := reached[name]; ok {
				continue
			}
			reached[name] = b
			for _, site := range few {
				next = append(next, begun(t, append(slices.Clone(b.model.past), join(site))...), begun(t, append(slices.Clone(b.model.past), leave(site))...))
			}
		}
		taken := 0
		for pair := range 64 {
			pick := func(bits int) []int {
				return slices.DeleteFunc(slices.Clone(few), func(site int) bool { return bits>>slices.Index(few, site)&1 == 0 })
			}
			joined, left := pick(pair%8), pick(pair/8)
			for epoch := -3; epoch < 12; epoch++ {
				r, err := roll.Load(joined, left, epoch)
				b, ok := reached[fmt.Sprint(joined, left, epoch)]
				want := api.ErrForm
				if ok {
					taken++
					want = api.OK
					wantTold(t, "Load", tell(r), tell(b.roll))
				} else if epoch < 0 {
					want = api.ErrArg
				}
				wantErr(t, call3{joined, left, epoch}, err, want)
			}
		}
		// A site has done neither, one of both, or both in one of two orders, which the epoch tells by how many came first alone.
		if taken != len(reached) || taken != 3*3*3+3*3*3*2+3*3*3+4 {
			t.Errorf("%d were taken of %d", taken, len(reached))
		}
	}
}

// TestLoadSubsets: P16.4, P16.6: each set of sites as joined, as left, and as both, with the least and the greatest epoch that may be, and those beside them.
func TestLoadSubsets(t *testing.T) {
	for set := range 1 << 16 {
		var list []int
		for site := 1; site <= 16; site++ {
			if set>>(site-1)&1 != 0 {
				list = append(list, site)
			}
		}
		n := len(list)
		for _, x := range []struct {
			joined, left []int
			least, most  int
		}{{list, nil, n, n}, {nil, list, 0, 0}, {list, list, 0, 2 * n}, {sites(), list, 16 - n, 16 + n}, {list, sites(), 0, 2 * n}} {
			for epoch := x.least - 1; epoch <= x.least+2; epoch++ {
				wantSet(t, x.joined, x.left, epoch, x.least, x.most)
			}
			for epoch := x.most; epoch <= x.most+2; epoch++ {
				wantSet(t, x.joined, x.left, epoch, x.least, x.most)
			}
		}
		if t.Failed() {
			return
		}
	}
}

// wantSet holds what Load answers against the least and the greatest epoch that may be, between which every second one may.
func wantSet(t *testing.T, joined, left []int, epoch, least, most int) {
	t.Helper()
	want := api.ErrForm
	if epoch < 0 {
		want = api.ErrArg
	} else if epoch >= least && epoch <= most && (epoch-least)%2 == 0 {
		want = api.OK
	}
	r, err := roll.Load(joined, left, epoch)
	wantErr(t, call3{joined, left, epoch}, err, want)
	if err == api.OK && (!slices.Equal(r.Joined(), joined) || !slices.Equal(r.Left(), left) || r.Epoch() != epoch) {
		t.Errorf("%v: %v %v %d", call3{joined, left, epoch}, r.Joined(), r.Left(), r.Epoch())
	}
}
