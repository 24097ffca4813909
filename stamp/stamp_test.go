package stamp_test

import (
	"math"
	"math/rand"
	"slices"
	"testing"

	"hearsay/api"
	"hearsay/stamp"
)

func id(time, site int) api.ID { return api.ID{Time: time, Site: site} }

func run(time, site, n int) api.Run { return api.Run{ID: id(time, site), Count: n} }

// edges is numbers about each limit there is.
var edges = []int{
	math.MinInt, math.MinInt + 1, -api.MaxTime, -1, 0, 1, 2, 3, api.MaxSites - 1, api.MaxSites, api.MaxSites + 1,
	api.MaxTime - 2, api.MaxTime - 1, api.MaxTime, api.MaxTime + 1, math.MaxInt - 1, math.MaxInt,
}

// edgeIDs is identifiers, and what is none, about each limit.
func edgeIDs() []api.ID {
	var l []api.ID
	for _, time := range edges {
		for _, site := range edges {
			l = append(l, id(time, site))
		}
	}
	return l
}

// grid is the identifiers of small times and sites, with some that are none.
func grid(times, sites int) []api.ID {
	var l []api.ID
	for time := range times + 1 {
		for site := range sites + 1 {
			l = append(l, id(time, site))
		}
	}
	return l
}

// every is all rows of n of these pieces.
func every[T any](pieces []T, n int) [][]T {
	rows := [][]T{nil}
	for range n {
		var longer [][]T
		for _, row := range rows {
			for _, p := range pieces {
				longer = append(longer, append(slices.Clone(row), p))
			}
		}
		rows = longer
	}
	return rows
}

// orders is all orders of these.
func orders[T any](l []T) [][]T {
	if len(l) == 0 {
		return [][]T{nil}
	}
	var all [][]T
	for i := range l {
		rest := slices.Delete(slices.Clone(l), i, i+1)
		for _, o := range orders(rest) {
			all = append(all, append([]T{l[i]}, o...))
		}
	}
	return all
}

func wantRuns(t *testing.T, ids []api.ID, want []api.Run) {
	t.Helper()
	got := stamp.Pack(ids)
	if !slices.Equal(got, want) {
		t.Errorf("Pack(%v): %v; want %v", ids, got, want)
	}
	if err := stamp.Check(got); err != api.OK {
		t.Errorf("Check(Pack(%v)): %d", ids, int(err))
	}
}

// wantChecked holds Check and Each of runs of few identifiers against what is worked out a second time.
func wantChecked(t *testing.T, runs []api.Run) {
	t.Helper()
	if got, want := stamp.Check(runs), wantCheck(runs); got != want {
		t.Errorf("Check(%v): %d; want %d", runs, int(got), int(want))
	}
	all := slices.Collect(stamp.Each(runs))
	if want := wantEach(runs); !slices.Equal(all, want) {
		t.Errorf("Each(%v): %v; want %v", runs, all, want)
	}
}

// TestExamplesOfRuns: the rows of the chapter's examples about identifiers and runs.
func TestExamplesOfRuns(t *testing.T) {
	if a, b, c := stamp.Compare(id(2, 1), id(1, 9)), stamp.Compare(id(1, 2), id(1, 3)), stamp.Compare(id(0, 0), id(0, 0)); a != 1 || b != -1 || c != 0 {
		t.Errorf("Compare: %d, %d, %d", a, b, c)
	}
	if a, b, c := stamp.After(id(3, 2), 4), stamp.After(id(3, 2), -1), stamp.After(id(0, 0), 0); a != id(7, 2) || b != id(0, 0) || c != id(0, 0) {
		t.Errorf("After: %v, %v, %v", a, b, c)
	}
	wantRuns(t, []api.ID{id(3, 1), id(1, 1), id(2, 1), id(2, 2), id(9, 1), id(2, 1), id(0, 1), id(5, 99)}, []api.Run{run(1, 1, 3), run(2, 2, 1), run(9, 1, 1)})
	for _, x := range []struct {
		runs []api.Run
		want api.Errno
	}{
		{nil, api.OK},
		{[]api.Run{run(1, 1, 0)}, api.ErrArg},
		{[]api.Run{run(2, 1, 1), run(1, 1, 1)}, api.ErrOrder},
		{[]api.Run{run(1, 1, 2), run(3, 1, 1)}, api.ErrForm},
		{[]api.Run{run(1, 1, 3), run(1, 2, 1), run(2, 1, 1)}, api.ErrForm},
		{[]api.Run{run(1, 1, 2), run(2, 2, 2), run(4, 1, 1)}, api.OK},
	} {
		if err := stamp.Check(x.runs); err != x.want {
			t.Errorf("Check(%v): %d; want %d", x.runs, int(err), int(x.want))
		}
	}
	l := []api.Run{run(1, 1, 2), run(2, 2, 1)}
	if all := slices.Collect(stamp.Each(l)); !slices.Equal(all, []api.ID{id(1, 1), id(2, 1), id(2, 2)}) {
		t.Errorf("Each: %v", all)
	}
	if !stamp.Has(l, id(2, 1)) || stamp.Has(l, id(3, 1)) {
		t.Error("Has")
	}
}

// TestCompare: P6.1, of any numbers: by Time, then by Site, and the other way round.
func TestCompare(t *testing.T) {
	l := append(edgeIDs(), grid(3, 3)...)
	for _, a := range l {
		for _, b := range l {
			if got, want := stamp.Compare(a, b), rank(a).Cmp(rank(b)); got != want || stamp.Compare(b, a) != -want {
				t.Fatalf("Compare(%v, %v): %d; want %d", a, b, got, want)
			}
		}
	}
}

// TestAfter: P6.1, of what is an identifier and what is none, by any n; nothing wraps (W10).
func TestAfter(t *testing.T) {
	for _, x := range []struct {
		id   api.ID
		n    int
		want api.ID
	}{
		{id(1, 1), 0, id(1, 1)},
		{id(1, 1), api.MaxTime - 1, id(api.MaxTime, 1)},
		{id(1, 1), api.MaxTime, id(0, 0)},
		{id(api.MaxTime, api.MaxSites), 0, id(api.MaxTime, api.MaxSites)},
		{id(api.MaxTime, api.MaxSites), 1, id(0, 0)},
		{id(api.MaxTime, 1), math.MaxInt, id(0, 0)},
		{id(1, 1), math.MaxInt, id(0, 0)},
		{id(5, 1), math.MinInt, id(0, 0)},
		{id(5, 1), -1, id(0, 0)},
		{id(0, 1), 1, id(0, 0)},
		{id(-1, 1), 2, id(0, 0)},
		{id(1, 0), 0, id(0, 0)},
		{id(1, api.MaxSites+1), 0, id(0, 0)},
		{id(api.MaxTime+1, 1), 0, id(0, 0)},
		{id(math.MinInt, 1), math.MaxInt, id(0, 0)},
	} {
		if got := stamp.After(x.id, x.n); got != x.want {
			t.Errorf("After(%v, %d): %v; want %v", x.id, x.n, got, x.want)
		}
	}
	for _, a := range edgeIDs() {
		for _, n := range edges {
			if got, want := stamp.After(a, n), wantAfter(a, n); got != want {
				t.Fatalf("After(%v, %d): %v; want %v", a, n, got, want)
			}
		}
	}
}

// TestPack: P6.2, P6.8, of lists that are written out.
func TestPack(t *testing.T) {
	most := api.MaxTime
	for _, x := range []struct {
		ids  []api.ID
		want []api.Run
	}{
		{nil, nil},
		{[]api.ID{}, nil},
		{[]api.ID{id(0, 0), id(0, 1), id(1, 0), id(-1, -1), id(1, 17), id(most+1, 1)}, nil},
		{[]api.ID{id(1, 1)}, []api.Run{run(1, 1, 1)}},
		{[]api.ID{id(2, 1), id(1, 1)}, []api.Run{run(1, 1, 2)}},
		{[]api.ID{id(3, 1), id(1, 1)}, []api.Run{run(1, 1, 1), run(3, 1, 1)}},
		{[]api.ID{id(1, 2), id(1, 1)}, []api.Run{run(1, 1, 1), run(1, 2, 1)}},
		{[]api.ID{id(1, 1), id(2, 2), id(3, 1)}, []api.Run{run(1, 1, 1), run(2, 2, 1), run(3, 1, 1)}},
		{[]api.ID{id(2, 1), id(2, 1), id(2, 1)}, []api.Run{run(2, 1, 1)}},
		// The later time is none, so the run ends there.
		{[]api.ID{id(most+1, 16), id(most, 16), id(most-1, 16)}, []api.Run{run(most-1, 16, 2)}},
		// Runs begun at one time are ordered by their sites, whichever is the longer.
		{[]api.ID{id(4, 2), id(5, 2), id(4, 1), id(5, 3), id(4, 3), id(6, 3)}, []api.Run{run(4, 1, 1), run(4, 2, 2), run(4, 3, 3)}},
	} {
		for _, o := range orders(x.ids) {
			wantRuns(t, o, x.want)
		}
	}
}

// TestPackOfSets: P6.2, P6.8: of all sets of identifiers of few times and sites, in an order by chance, some of them several times.
func TestPackOfSets(t *testing.T) {
	pieces := grid(4, 2)
	chance := rand.New(rand.NewSource(6))
	for set := range 1 << len(pieces) {
		var ids []api.ID
		for i, p := range pieces {
			if set>>i&1 == 1 {
				ids = append(ids, p)
			}
		}
		want := wantPack(ids)
		if len(ids) > 0 {
			ids = append(ids, ids[chance.Intn(len(ids))])
		}
		chance.Shuffle(len(ids), func(i, j int) { ids[i], ids[j] = ids[j], ids[i] })
		if got := stamp.Pack(ids); !slices.Equal(got, want) {
			t.Fatalf("Pack(%v): %v; want %v", ids, got, want)
		}
	}
}

// TestPackOfMany: P6.2, P6.8, W1: of all sites, up to the last time, and of long lists.
func TestPackOfMany(t *testing.T) {
	chance := rand.New(rand.NewSource(66))
	for range 3000 {
		from := []int{-3, 1, 1000, api.MaxTime - 20}[chance.Intn(4)]
		var ids []api.ID
		for range chance.Intn(200) {
			ids = append(ids, id(from+chance.Intn(25), chance.Intn(api.MaxSites+2)))
		}
		wantRuns(t, ids, wantPack(ids))
	}
	var ids []api.ID
	for time := 300000; time > 0; time-- {
		ids = append(ids, id(time, 1+time%2), id(time, 3))
	}
	got := stamp.Pack(ids)
	if len(got) != 300001 || got[0] != run(1, 2, 1) || got[1] != run(1, 3, 300000) || stamp.Check(got) != api.OK {
		t.Errorf("Pack of many: %d runs", len(got))
	}
}

// spoilt is one run for each way of offending, as the second of two.
var spoilt = []struct {
	run  api.Run
	want api.Errno
}{
	{run(9, 1, 0), api.ErrArg}, {run(9, 1, -1), api.ErrArg}, {run(9, 1, math.MinInt), api.ErrArg},
	{run(9, 1, math.MaxInt), api.ErrArg}, {run(9, 1, api.MaxTime-7), api.ErrArg}, {run(9, 1, api.MaxTime-8), api.OK},
	{run(0, 1, 1), api.ErrArg}, {run(-9, 1, 20), api.ErrArg}, {run(9, 0, 1), api.ErrArg}, {run(9, 17, 1), api.ErrArg},
	{run(api.MaxTime, 1, 1), api.OK}, {run(api.MaxTime, 1, 2), api.ErrArg}, {run(api.MaxTime+1, 1, 1), api.ErrArg},
	{run(math.MaxInt, 1, math.MaxInt), api.ErrArg}, {run(math.MinInt, math.MinInt, math.MinInt), api.ErrArg},
	{run(4, 1, 3), api.ErrOrder}, {run(4, 1, 1), api.ErrOrder}, {run(3, 1, 1), api.ErrOrder}, {run(3, 2, 9), api.ErrOrder},
	{run(4, 2, 3), api.OK}, {run(5, 2, 3), api.OK},
	{run(5, 1, 1), api.ErrForm}, {run(5, 1, 2), api.ErrForm}, {run(6, 1, 9), api.ErrForm}, {run(7, 1, 1), api.ErrForm}, {run(8, 1, 1), api.OK},
	// In several ways at once: what the chapter names first comes first.
	{run(4, 1, 0), api.ErrArg}, {run(3, 1, math.MaxInt), api.ErrArg}, {run(5, 1, -1), api.ErrArg}, {run(4, 17, 1), api.ErrArg},
	{run(2, 1, 9), api.ErrOrder}, {run(3, 1, 2), api.ErrOrder},
}

// TestCheck: P6.3: a run that offends at the second of two places, and the same with others ahead and behind.
func TestCheck(t *testing.T) {
	ahead := []api.Run{run(1, 1, 2), run(2, 3, 1)}
	behind := [][]api.Run{nil, {run(1, 1, 1)}, {run(0, 0, 0)}, {run(5, 1, 1)}}
	for _, x := range spoilt {
		two := []api.Run{run(4, 1, 3), x.run}
		for _, l := range [][]api.Run{two, slices.Concat(ahead, two)} {
			if err := stamp.Check(l); err != x.want {
				t.Errorf("Check(%v): %d; want %d", l, int(err), int(x.want))
			}
			if wantCheck(l) != x.want {
				t.Errorf("%v: the second working out says %d", l, int(wantCheck(l)))
			}
			if x.want == api.OK {
				continue
			}
			for _, b := range behind {
				// Whatever comes behind the first one that offends says nothing any more.
				if err := stamp.Check(slices.Concat(l, b)); err != x.want {
					t.Errorf("Check(%v, %v): %d; want %d", l, b, int(err), int(x.want))
				}
			}
		}
		if x.want != api.ErrArg {
			continue
		}
		if err := stamp.Check([]api.Run{x.run, run(4, 1, 3)}); err != api.ErrArg {
			t.Errorf("Check(%v first): %d", x.run, int(err))
		}
	}
}

// TestCheckOtherSites: P6.3: a run is held against the last one of its own Site, however many others come between.
func TestCheckOtherSites(t *testing.T) {
	for site := 1; site <= api.MaxSites; site++ {
		l := []api.Run{run(1, site, 40)}
		for other := 1; other <= api.MaxSites; other++ {
			if other != site {
				l = append(l, run(20, other, 1))
			}
		}
		for time, want := range map[int]api.Errno{21: api.ErrForm, 40: api.ErrForm, 41: api.ErrForm, 42: api.OK} {
			if err := stamp.Check(append(slices.Clone(l), run(time, site, 3))); err != want {
				t.Errorf("site %d again at %d: %d; want %d", site, time, int(err), int(want))
			}
		}
		if err := stamp.Check(append(l, run(21, site%api.MaxSites+1, 1))); err != api.ErrForm {
			t.Errorf("one that follows a short run: %d", int(err))
		}
	}
}

// fewRuns is all lists of at most n runs of few times, sites and counts.
func fewRuns(n int) [][]api.Run {
	var pieces []api.Run
	for time := range 6 {
		for site := range 2 {
			for count := range 4 {
				pieces = append(pieces, run(time, site+1, count))
			}
		}
	}
	var all [][]api.Run
	for i := range n + 1 {
		all = append(all, every(pieces, i)...)
	}
	return all
}

// TestFewRuns: P6.3, P6.4, P6.8: of all lists of a few runs.
func TestFewRuns(t *testing.T) {
	for _, runs := range fewRuns(3) {
		wantChecked(t, runs)
		all := slices.Collect(stamp.Each(runs))
		if wantCheck(runs) == api.OK && !slices.Equal(stamp.Pack(all), runs) {
			t.Fatalf("Pack(Each(%v)): %v", runs, stamp.Pack(all))
		}
		if t.Failed() {
			return
		}
	}
}

// TestManyRuns: P6.3, P6.4, P6.8: of longer lists in their form, and of the same with one run altered.
func TestManyRuns(t *testing.T) {
	chance := rand.New(rand.NewSource(666))
	for range 3000 {
		from := []int{1, 77, api.MaxTime - 39}[chance.Intn(3)]
		var ids []api.ID
		for range chance.Intn(100) {
			ids = append(ids, id(from+chance.Intn(40), 1+chance.Intn(4)))
		}
		runs := wantPack(ids)
		wantChecked(t, runs)
		if got := stamp.Pack(slices.Collect(stamp.Each(runs))); !slices.Equal(got, runs) {
			t.Fatalf("Pack(Each(%v)): %v", runs, got)
		}
		if len(runs) == 0 {
			continue
		}
		r := &runs[chance.Intn(len(runs))]
		switch chance.Intn(3) {
		case 0:
			r.ID.Time += chance.Intn(5) - 2
		case 1:
			r.ID.Site += chance.Intn(5) - 2
		case 2:
			r.Count += chance.Intn(5) - 2
		}
		wantChecked(t, runs)
	}
}

// TestEachStops: P6.4, W1, W7: told to stop at each place, taken up again, and within itself.
func TestEachStops(t *testing.T) {
	runs := []api.Run{run(1, 1, 3), run(2, 2, 1), run(7, 1, 2)}
	all := wantEach(runs)
	seq := stamp.Each(runs)
	for stop := range len(all) + 2 {
		var got []api.ID
		seq(func(i api.ID) bool {
			got = append(got, i)
			return len(got) < stop
		})
		// Whoever wants none still is asked once.
		if want := all[:min(max(stop, 1), len(all))]; !slices.Equal(got, want) {
			t.Errorf("stopped at %d: %v; want %v", stop, got, want)
		}
		if again := slices.Collect(seq); !slices.Equal(again, all) {
			t.Errorf("taken up again: %v", again)
		}
	}
	var outer []api.ID
	for i := range seq {
		outer = append(outer, i)
		if inner := slices.Collect(seq); !slices.Equal(inner, all) {
			t.Errorf("within itself: %v", inner)
		}
	}
	if !slices.Equal(outer, all) {
		t.Errorf("around itself: %v", outer)
	}
	for _, none := range [][]api.Run{nil, {}, {run(1, 1, 1), run(2, 1, 1)}, {run(1, 1, 1), run(2, 1, 0)}, {run(1, 1, math.MaxInt)}} {
		for i := range stamp.Each(none) {
			t.Errorf("Each(%v) comes to %v", none, i)
		}
	}
}

// TestEachOfLong: P6.4, W1: a run of all times there are, and one at their end.
func TestEachOfLong(t *testing.T) {
	n := 0
	for i := range stamp.Each([]api.Run{run(1, 1, api.MaxTime), run(1, 2, api.MaxTime)}) {
		if n++; i != id(n, 1) {
			t.Fatalf("%v is the identifier %d", i, n)
		}
		if n == 100000 {
			break
		}
	}
	last := slices.Collect(stamp.Each([]api.Run{run(api.MaxTime-1, 16, 2)}))
	if !slices.Equal(last, []api.ID{id(api.MaxTime-1, 16), id(api.MaxTime, 16)}) {
		t.Errorf("the last ones: %v", last)
	}
}

// TestHas: P6.4, of all identifiers about all lists of two runs.
func TestHas(t *testing.T) {
	asked := grid(9, 3)
	for _, runs := range fewRuns(2) {
		all := wantEach(runs)
		for _, i := range asked {
			if got, want := stamp.Has(runs, i), slices.Contains(all, i); got != want {
				t.Fatalf("Has(%v, %v): %v; want %v", runs, i, got, want)
			}
		}
	}
}

// TestHasEdges: P6.4: ahead of and behind a run, what is none, any numbers, runs that Check does not take.
func TestHasEdges(t *testing.T) {
	most := api.MaxTime
	for _, x := range []struct {
		runs []api.Run
		id   api.ID
		want bool
	}{
		{nil, id(1, 1), false},
		{nil, id(0, 0), false},
		{[]api.Run{run(5, 2, 3)}, id(4, 2), false},
		{[]api.Run{run(5, 2, 3)}, id(5, 2), true},
		{[]api.Run{run(5, 2, 3)}, id(7, 2), true},
		{[]api.Run{run(5, 2, 3)}, id(8, 2), false},
		{[]api.Run{run(5, 2, 3)}, id(6, 1), false},
		{[]api.Run{run(5, 2, 3)}, id(6, 3), false},
		{[]api.Run{run(1, 1, most)}, id(most, 1), true},
		{[]api.Run{run(1, 1, most)}, id(most+1, 1), false},
		{[]api.Run{run(1, 1, most)}, id(0, 1), false},
		{[]api.Run{run(1, 1, most), run(1, 16, most)}, id(most, 16), true},
		{[]api.Run{run(1, 1, most), run(3, 1, 1)}, id(3, 1), false},
		{[]api.Run{run(1, 1, 1), run(2, 2, 0)}, id(1, 1), false},
		{[]api.Run{run(2, 1, 1), run(1, 1, 1)}, id(1, 1), false},
		{[]api.Run{run(1, 17, 1)}, id(1, 17), false},
		{[]api.Run{run(0, 0, 1)}, id(0, 0), false},
	} {
		if got := stamp.Has(x.runs, x.id); got != x.want {
			t.Errorf("Has(%v, %v): %v", x.runs, x.id, got)
		}
	}
	whole := []api.Run{run(2, 1, most-2), run(3, 2, most-2)}
	for _, i := range edgeIDs() {
		want := i.Site == 1 && i.Time >= 2 && i.Time < most || i.Site == 2 && i.Time >= 3 && i.Time <= most
		if got := stamp.Has(whole, i); got != want {
			t.Errorf("Has(%v, %v): %v", whole, i, got)
		}
	}
}

// TestListsStay: P6.10, W6: what is handed in is unchanged, its spare room too, and shares nothing with what is answered.
func TestListsStay(t *testing.T) {
	room := []api.ID{id(3, 1), id(1, 1), id(2, 1), id(0, 0), id(2, 1), id(8, 8), id(7, 7)}
	was := slices.Clone(room)
	got := stamp.Pack(room[:5])
	want := slices.Clone(got)
	if !slices.Equal(room, was) {
		t.Errorf("Pack changed its list: %v", room)
	}
	other := stamp.Pack(room[:5])
	for i := range got[:cap(got)] {
		got[:cap(got)][i] = run(99, 99, 99)
	}
	if !slices.Equal(room, was) || !slices.Equal(other, want) || !slices.Equal(stamp.Pack(room[:5]), want) {
		t.Error("what Pack answered is shared")
	}

	runs := []api.Run{run(1, 1, 2), run(2, 2, 1), run(9, 9, 9), run(0, 0, 0)}
	kept := slices.Clone(runs)
	seq := stamp.Each(runs[:2])
	all := slices.Collect(seq)
	if stamp.Check(runs[:2]) != api.OK || !stamp.Has(runs[:2], id(2, 2)) || !slices.Equal(runs, kept) {
		t.Errorf("the runs are changed: %v", runs)
	}
	// What the iterator goes through is what there was when it was made.
	runs[0], runs[1] = run(5, 5, 5), run(0, 0, 0)
	if again := slices.Collect(seq); !slices.Equal(again, all) {
		t.Errorf("Each keeps the list: %v", again)
	}
	spoiltFirst := []api.Run{run(1, 1, 0)}
	seq = stamp.Each(spoiltFirst)
	spoiltFirst[0].Count = 1
	if all := slices.Collect(seq); len(all) != 0 {
		t.Errorf("Each looks at its runs too late: %v", all)
	}
	changing := []api.Run{run(1, 1, 2), run(1, 2, 2)}
	n := 0
	for range stamp.Each(changing) {
		n++
		changing[1] = run(1, 3, 9)
	}
	if n != 4 {
		t.Errorf("Each of runs that change on the way comes to %d", n)
	}
}
