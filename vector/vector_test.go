package vector_test

import (
	"maps"
	"math"
	"math/rand"
	"slices"
	"testing"

	"hearsay/api"
	"hearsay/vector"
)

func dot(site, seq int) api.Dot { return api.Dot{Site: site, Seq: seq} }

// of is the list of these Sites and Seqs, one behind the other.
func of(numbers ...int) api.Vector { return pairs(numbers) }

// edges is numbers about each limit there is.
var edges = []int{
	math.MinInt, math.MinInt + 1, -api.MaxSeq, -api.MaxSites, -1, 0, 1, 2, 7, api.MaxSites - 1, api.MaxSites, api.MaxSites + 1,
	api.MaxSeq - 1, api.MaxSeq, api.MaxSeq + 1, math.MaxInt - 1, math.MaxInt,
}

// edgeDots is Dots about each limit, in Site and Seq.
func edgeDots() []api.Dot { return cross(edges, edges) }

// cross is the Dots of all these Sites with all these Seqs.
func cross(sites, seqs []int) []api.Dot {
	var l []api.Dot
	for _, site := range sites {
		for _, seq := range seqs {
			l = append(l, dot(site, seq))
		}
	}
	return l
}

// upTo is all lists of at most n of these pieces.
func upTo(pieces []api.Dot, n int) []api.Vector {
	lists := []api.Vector{nil}
	last := lists
	for range n {
		var longer []api.Vector
		for _, l := range last {
			for _, p := range pieces {
				longer = append(longer, append(slices.Clone(l), p))
			}
		}
		lists = append(lists, longer...)
		last = longer
	}
	return lists
}

// fewDots is all lists of up to three Dots, with Sites and Seqs that are none among them.
func fewDots() []api.Vector {
	return upTo(cross([]int{0, 1, 2, api.MaxSites, api.MaxSites + 1}, []int{-1, 0, 1, api.MaxSeq, api.MaxSeq + 1}), 3)
}

// smallVectors is all vectors of the sites 1, 9 and 16 with Seqs up to most.
func smallVectors(most int) []api.Vector {
	var l []api.Vector
	for x := range most + 1 {
		for y := range most + 1 {
			for z := range most + 1 {
				l = append(l, wantVector(of(1, x, 9, y, 16, z)))
			}
		}
	}
	return l
}

// wild is a list that may be a vector or not, of any length up to most.
func wild(r *rand.Rand, most int) api.Vector {
	l := make(api.Vector, r.Intn(most+1))
	for i := range l {
		l[i] = dot(r.Intn(20)-1, r.Intn(12)-2)
		if r.Intn(9) == 0 {
			l[i].Seq = edges[r.Intn(len(edges))]
		}
		if r.Intn(9) == 0 {
			l[i].Site = edges[r.Intn(len(edges))]
		}
	}
	return l
}

// full is the vector with a Seq for each site.
func full(seq int) api.Vector {
	return wantEach(func(int) int { return seq })
}

// TestExamples: the rows of the chapter's examples, but those about bytes.
func TestExamples(t *testing.T) {
	a, b, odd := of(1, 5, 3, 2), of(2, 1, 3, 4), of(1, 5, 1, 7, 0, 9)
	for _, x := range []struct {
		v    api.Vector
		want api.Errno
	}{{a, api.OK}, {of(3, 2, 1, 5), api.ErrOrder}, {of(0, 1), api.ErrArg}, {of(1, 0), api.ErrForm}, {of(17, 0, 1, 1), api.ErrArg}, {nil, api.OK}, {api.Vector{}, api.OK}} {
		wantErr(t, x.v, vector.Check(x.v), x.want)
	}
	if g := []int{vector.Get(a, 3), vector.Get(a, 2), vector.Get(odd, 1), vector.Get(odd, 0), vector.Sum(a)}; !slices.Equal(g, []int{2, 0, 7, 0, 7}) {
		t.Errorf("Get and Sum: %v", g)
	}
	if !vector.Has(of(1, 5), dot(1, 5)) || vector.Has(of(1, 5), dot(1, 6)) || vector.Has(of(1, 5), dot(1, 0)) {
		t.Error("Has")
	}
	if !vector.Covers(a, of(3, 2)) || vector.Covers(of(1, 5), of(3, 1)) || !vector.Covers(nil, nil) {
		t.Error("Covers")
	}
	wantList(t, "Merge", vector.Merge(a, b), of(1, 5, 2, 1, 3, 4))
	wantList(t, "Least", vector.Least(a, b), of(3, 2))
	wantList(t, "Least", vector.Least(of(1, 5), of(2, 1)), nil)
	for _, x := range []struct {
		v    api.Vector
		d    api.Dot
		want api.Vector
		err  api.Errno
	}{
		{of(1, 5), dot(1, 6), of(1, 6), api.OK}, {of(1, 5), dot(2, 1), of(1, 5, 2, 1), api.OK}, {of(1, 5), dot(1, 5), nil, api.ErrOrder},
		{of(1, 5), dot(9, 2), nil, api.ErrOrder}, {of(1, 5), dot(17, 1), nil, api.ErrArg}, {of(1, 2147483647), dot(1, 2147483648), nil, api.ErrFull},
	} {
		got, err := vector.Add(x.v, x.d)
		wantList(t, "Add", got, x.want)
		wantErr(t, x.v, err, x.err)
	}
}

// wantList holds an answered list against what it must be.
func wantList(t *testing.T, what string, got, want api.Vector) {
	t.Helper()
	if !slices.Equal(got, want) {
		t.Errorf("%s: %v; want %v", what, got, want)
	}
}

// wantErr holds an error against what it must be.
func wantErr(t *testing.T, about any, got, want api.Errno) {
	t.Helper()
	if got != want {
		t.Errorf("%v: error %d; want %d", about, int(got), int(want))
	}
}

// TestCheck: P7.1: all lists of up to three Dots, each Dot right or wrong in each way and in several at once.
func TestCheck(t *testing.T) {
	for _, v := range fewDots() {
		wantErr(t, v, vector.Check(v), wantCheck(v))
	}
	for _, d := range edgeDots() {
		wantErr(t, d, vector.Check(api.Vector{d}), wantCheck(api.Vector{d}))
		wantErr(t, d, vector.Check(api.Vector{dot(7, 7), d}), wantCheck(api.Vector{dot(7, 7), d}))
	}
}

// TestCheckPlaces: P7.1: a Dot that offends at each place of a vector of all sites, and two of them, of which the first one counts.
func TestCheckPlaces(t *testing.T) {
	wantErr(t, "all sites", vector.Check(full(1)), api.OK)
	wantErr(t, "all sites", vector.Check(full(api.MaxSeq)), api.OK)
	ways := []struct {
		spoil func(v api.Vector, i int)
		want  api.Errno
	}{
		{func(v api.Vector, i int) { v[i].Site = 0 }, api.ErrArg},
		{func(v api.Vector, i int) { v[i].Site = -v[i].Site }, api.ErrArg},
		{func(v api.Vector, i int) { v[i].Site = api.MaxSites + 1 }, api.ErrArg},
		{func(v api.Vector, i int) { v[i] = dot(math.MaxInt, 0) }, api.ErrArg},
		{func(v api.Vector, i int) { v[i].Seq = 0 }, api.ErrForm},
		{func(v api.Vector, i int) { v[i].Seq = math.MinInt }, api.ErrForm},
		{func(v api.Vector, i int) { v[i].Seq = api.MaxSeq + 1 }, api.ErrForm},
		{func(v api.Vector, i int) { v[i] = dot(1, 0) }, api.ErrForm},
		{func(v api.Vector, i int) { v[i].Site = v[max(i-1, 0)].Site }, api.ErrOrder},
		{func(v api.Vector, i int) { v[i].Site = 1 }, api.ErrOrder},
	}
	for first := range api.MaxSites {
		for _, x := range ways {
			if x.want == api.ErrOrder && first == 0 {
				continue // no Dot stands ahead of it
			}
			v := full(3)
			x.spoil(v, first)
			wantErr(t, v, vector.Check(v), x.want)
			for later := first + 1; later < api.MaxSites; later++ {
				for _, y := range ways {
					v := full(3)
					y.spoil(v, later)
					x.spoil(v, first)
					wantErr(t, v, vector.Check(v), x.want)
				}
			}
		}
	}
	// One Dot more than there are sites can only offend.
	wantErr(t, "17 Dots", vector.Check(append(full(1), dot(api.MaxSites, 1))), api.ErrOrder)
	wantErr(t, "17 Dots", vector.Check(append(full(1), dot(api.MaxSites+1, 1))), api.ErrArg)
}

// wantAsked holds Get, Has and Sum of a list against what they must be.
func wantAsked(t *testing.T, v api.Vector) {
	t.Helper()
	for site := -1; site <= api.MaxSites+1; site++ {
		want := wantGet(v, site)
		if got := vector.Get(v, site); got != want {
			t.Errorf("Get(%v, %d): %d; want %d", v, site, got, want)
		}
		for _, seq := range []int{math.MinInt, -1, 0, 1, want - 1, want, want + 1, api.MaxSeq, api.MaxSeq + 1, math.MaxInt} {
			if got := vector.Has(v, dot(site, seq)); got != (seq >= 1 && seq <= want) {
				t.Errorf("Has(%v, %d %d): %v", v, site, seq, got)
			}
		}
	}
	if got := vector.Sum(v); got != wantSum(v) {
		t.Errorf("Sum(%v): %d; want %d", v, got, wantSum(v))
	}
}

// TestAsked: P7.2: Get, Has and Sum of each site and of what is none; of lists in which a site stands several times, or with Seqs that are none.
func TestAsked(t *testing.T) {
	for i, v := range fewDots() {
		if len(v) < 3 || i%7 == 0 {
			wantAsked(t, v)
		}
	}
	for _, d := range edgeDots() {
		wantAsked(t, api.Vector{d})
		wantAsked(t, api.Vector{dot(1, 2), d, dot(1, 1)})
		v := of(1, 5, 16, 9)
		if got, want := vector.Get(v, d.Site), wantGet(v, d.Site); got != want {
			t.Errorf("Get(%v, %d): %d; want %d", v, d.Site, got, want)
		}
		if got := vector.Has(v, d); got != dots(v)[d] {
			t.Errorf("Has(%v, %v): %v", v, d, got)
		}
	}
	for n := 1; n <= api.MaxSites; n++ {
		wantAsked(t, full(n))
		wantAsked(t, of(n, api.MaxSeq))
		wantAsked(t, of(n, 3, n, api.MaxSeq+1, n, 8, n, 0, n, 5))
	}
	r := rand.New(rand.NewSource(7))
	for range 300 {
		wantAsked(t, wild(r, 40))
	}
}

// TestSum: P7.2, W10: all sites up to MaxSeq, which is more than a word of 32 bits holds.
func TestSum(t *testing.T) {
	for n := range api.MaxSites + 1 {
		v := full(api.MaxSeq)[:n]
		if got := int64(vector.Sum(v)); got != int64(n)*(1<<31-1) {
			t.Errorf("%d sites: %d", n, got)
		}
		twice := append(slices.Clone(v), v...)
		slices.Reverse(twice)
		if got := int64(vector.Sum(twice)); got != int64(n)*(1<<31-1) {
			t.Errorf("%d sites, each twice: %d", n, got)
		}
	}
	if got := vector.Sum(of(0, 5, 17, 5, 1, 0, 1, -1, 1, api.MaxSeq+1, 1, math.MaxInt, math.MaxInt, 1)); got != 0 {
		t.Errorf("nothing: %d", got)
	}
}

// wantPair holds Covers, Merge and Least of two lists, and of these the other way round, against what they must be.
func wantPair(t *testing.T, a, b api.Vector) {
	t.Helper()
	if got := vector.Covers(a, b); got != wantCovers(a, b) {
		t.Errorf("Covers(%v, %v): %v", a, b, got)
	}
	if got := vector.Covers(b, a); got != wantCovers(b, a) {
		t.Errorf("Covers(%v, %v): %v", b, a, got)
	}
	merged, least := wantMerge(a, b), wantLeast(a, b)
	wantList(t, "Merge", vector.Merge(a, b), merged)
	wantList(t, "Merge", vector.Merge(b, a), merged)
	wantList(t, "Least", vector.Least(a, b), least)
	wantList(t, "Least", vector.Least(b, a), least)
	if got, want := vector.Sum(vector.Merge(a, b))+vector.Sum(vector.Least(a, b)), vector.Sum(a)+vector.Sum(b); got != want {
		t.Errorf("%v, %v: the sums of Merge and Least are %d; want %d", a, b, got, want)
	}
}

// TestPairs: P7.3, P7.8: all pairs of lists of up to two Dots, vectors or not, and of longer ones.
func TestPairs(t *testing.T) {
	lists := upTo(cross([]int{0, 1, 2, api.MaxSites}, []int{0, 1, 2, api.MaxSeq + 1}), 2)
	for _, a := range lists {
		for _, b := range lists {
			wantPair(t, a, b)
		}
	}
	edgy := edgeDots()
	for i, d := range edgy {
		e := edgy[(i*31+7)%len(edgy)]
		wantPair(t, api.Vector{d}, api.Vector{e})
		wantPair(t, api.Vector{d}, nil)
		wantPair(t, api.Vector{d, dot(2, 4), e}, api.Vector{e, dot(2, 4), d})
		wantPair(t, full(3), api.Vector{d, e})
	}
	wantPair(t, nil, api.Vector{})
	wantPair(t, full(api.MaxSeq), full(api.MaxSeq-1))
	r := rand.New(rand.NewSource(73))
	for range 3000 {
		wantPair(t, wild(r, 40), wild(r, 40))
	}
}

// TestPairSites: P7.3: each site by itself decides over Covers, and stands in Merge and Least.
func TestPairSites(t *testing.T) {
	for site := 1; site <= api.MaxSites; site++ {
		more := wantMerge(full(3), of(site, 4))
		less := slices.Clone(full(3))
		less[site-1].Seq = 2
		for _, x := range [][2]api.Vector{{more, full(3)}, {full(3), less}, {more, less}} {
			high, low := x[0], x[1]
			if !vector.Covers(high, low) || vector.Covers(low, high) || !vector.Covers(low, low) {
				t.Errorf("Covers at the site %d", site)
			}
			wantPair(t, high, low)
		}
		none := slices.Delete(full(3), site-1, site)
		if vector.Covers(none, full(1)) || !vector.Covers(full(3), none) {
			t.Errorf("Covers without the site %d", site)
		}
		wantPair(t, none, of(site, 1))
	}
}

// TestSets: P7.3, P7.8: as sets of operations, Covers is containing, Merge is either, Least is both, Sum is how many.
func TestSets(t *testing.T) {
	vs := smallVectors(3)
	for _, a := range vs {
		for _, b := range vs {
			x, y := dots(a), dots(b)
			either, both := maps.Clone(x), map[api.Dot]bool{}
			contained := true
			for d := range y {
				either[d] = true
				if x[d] {
					both[d] = true
				}
				contained = contained && x[d]
			}
			if !maps.Equal(dots(vector.Merge(a, b)), either) || !maps.Equal(dots(vector.Least(a, b)), both) || vector.Covers(a, b) != contained || vector.Sum(a) != len(x) {
				t.Errorf("%v, %v", a, b)
			}
		}
	}
}

// TestLaws: P7.7: of all triples of small vectors, and of wild lists: the order, the least above both, the greatest below both, grouping, and that each distributes over the other.
func TestLaws(t *testing.T) {
	vs := smallVectors(2)
	for _, a := range vs {
		for _, b := range vs {
			for _, c := range vs {
				wantLaws(t, a, b, c)
			}
			if t.Failed() {
				return
			}
		}
	}
	r := rand.New(rand.NewSource(77))
	for range 3000 {
		wantLaws(t, wild(r, 9), wild(r, 9), wild(r, 9))
	}
}

func wantLaws(t *testing.T, a, b, c api.Vector) {
	t.Helper()
	covers, merge, least := vector.Covers, vector.Merge, vector.Least
	same := func(x, y api.Vector) bool { return slices.Equal(x, y) }
	for law, holds := range map[string]bool{
		"a covers a":                      covers(a, a),
		"a covers b, b covers c":          !covers(a, b) || !covers(b, c) || covers(a, c),
		"each covers the other one":       (covers(a, b) && covers(b, a)) == same(merge(a, nil), merge(b, nil)),
		"Merge covers both":               covers(merge(a, b), a) && covers(merge(a, b), b),
		"Merge is covered":                !covers(c, a) || !covers(c, b) || covers(c, merge(a, b)),
		"Least is covered by both":        covers(a, least(a, b)) && covers(b, least(a, b)),
		"Least covers":                    !covers(a, c) || !covers(b, c) || covers(least(a, b), c),
		"Merge in any order":              same(merge(a, b), merge(b, a)),
		"Merge in any grouping":           same(merge(merge(a, b), c), merge(a, merge(b, c))),
		"Least in any order":              same(least(a, b), least(b, a)),
		"Least in any grouping":           same(least(least(a, b), c), least(a, least(b, c))),
		"Least over Merge":                same(least(a, merge(b, c)), merge(least(a, b), least(a, c))),
		"Merge over Least":                same(merge(a, least(b, c)), least(merge(a, b), merge(a, c))),
		"Merge and Least are vectors":     vector.Check(merge(a, b)) == api.OK && vector.Check(least(a, b)) == api.OK,
		"of a list and itself its vector": same(merge(a, a), wantVector(a)) && same(least(a, a), wantVector(a)),
	} {
		if !holds {
			t.Errorf("%v, %v, %v: %s", a, b, c, law)
		}
	}
}

// wantAdded holds Add against what it must be, and what it does to Has and Sum.
func wantAdded(t *testing.T, v api.Vector, d api.Dot) {
	t.Helper()
	got, err := vector.Add(v, d)
	want, wantE := wantAdd(v, d)
	if !slices.Equal(got, want) || err != wantE {
		t.Errorf("Add(%v, %v): %v, %d; want %v, %d", v, d, got, int(err), want, int(wantE))
	}
	if err != api.OK {
		if got != nil {
			t.Errorf("Add(%v, %v): a list beside an error: %v", v, d, got)
		}
		return
	}
	if vector.Check(got) != api.OK || vector.Sum(got) != vector.Sum(v)+1 {
		t.Errorf("Add(%v, %v): %v", v, d, got)
	}
	for site := range api.MaxSites + 2 {
		for seq := vector.Get(v, site) - 1; seq <= vector.Get(v, site)+2; seq++ {
			e := dot(site, seq)
			if vector.Has(got, e) != (vector.Has(v, e) || e == d) {
				t.Errorf("Add(%v, %v): %v, and %v", v, d, got, e)
			}
		}
	}
}

// TestAdd: P7.4, P7.8: each error, and several at once; MaxSeq and beyond it; sites that a list has and has not; lists that are no vectors.
func TestAdd(t *testing.T) {
	bases := []api.Vector{
		nil, of(1, 5), of(2, 1), of(1, api.MaxSeq-1), of(1, api.MaxSeq), of(1, api.MaxSeq, 7, api.MaxSeq, 16, api.MaxSeq), full(6), full(api.MaxSeq - 1),
		of(16, 1, 7, 6, 1, 3, 7, 2, 0, 9, 17, 9, 1, 0, 1, api.MaxSeq+1), of(1, 6, 1, 6),
	}
	for _, v := range bases {
		for _, d := range edgeDots() {
			wantAdded(t, v, d)
		}
		for site := range api.MaxSites + 2 {
			for seq := vector.Get(v, site) - 1; seq <= vector.Get(v, site)+2; seq++ {
				wantAdded(t, v, dot(site, seq))
			}
		}
	}
	for i, v := range fewDots() {
		wantAdded(t, v, dot(1, 1+vector.Get(v, 1)))
		wantAdded(t, v, dot(2, 1+vector.Get(v, 2)))
		wantAdded(t, v, dot(i%18, i%4))
	}
}

// TestAddErrors: P7.4: which error comes first.
func TestAddErrors(t *testing.T) {
	v := of(1, api.MaxSeq, 2, 5)
	for _, x := range []struct {
		d    api.Dot
		want api.Errno
	}{
		{dot(0, api.MaxSeq+1), api.ErrArg}, {dot(17, math.MaxInt), api.ErrArg}, {dot(-1, 1), api.ErrArg}, {dot(3, 0), api.ErrArg}, {dot(3, -1), api.ErrArg},
		{dot(3, math.MinInt), api.ErrArg}, {dot(0, 0), api.ErrArg}, {dot(2, 0), api.ErrArg}, {dot(1, api.MaxSeq+1), api.ErrFull}, {dot(2, api.MaxSeq+1), api.ErrFull},
		{dot(3, math.MaxInt), api.ErrFull}, {dot(1, api.MaxSeq), api.ErrOrder}, {dot(1, 1), api.ErrOrder}, {dot(2, 5), api.ErrOrder}, {dot(2, 7), api.ErrOrder},
		{dot(2, api.MaxSeq), api.ErrOrder}, {dot(3, 2), api.ErrOrder}, {dot(2, 6), api.OK}, {dot(3, 1), api.OK}, {dot(16, 1), api.OK},
	} {
		_, err := vector.Add(v, x.d)
		wantErr(t, x.d, err, x.want)
	}
}

// TestCountUp: P7.4, P7.8: a vector that grows operation by operation, of all sites in turn.
func TestCountUp(t *testing.T) {
	var v api.Vector
	for i := range 5 * api.MaxSites {
		d := dot(i%api.MaxSites+1, i/api.MaxSites+1)
		next, err := vector.Add(v, d)
		if err != api.OK || vector.Sum(next) != i+1 || !vector.Covers(next, v) || vector.Covers(v, next) || !vector.Has(next, d) || vector.Has(v, d) {
			t.Fatalf("Add(%v, %v): %v, %d", v, d, next, int(err))
		}
		v = next
	}
	wantList(t, "Add", v, full(5))
}

// TestLongLists: W1: far more Dots than there are sites.
func TestLongLists(t *testing.T) {
	long := make(api.Vector, 200000)
	for i := range long {
		long[i] = dot(i%40-10, i-100000)
	}
	for site := -20; site < 40; site++ {
		if vector.Get(long, site) != wantGet(long, site) {
			t.Errorf("Get of the site %d", site)
		}
	}
	wantPair(t, long, of(3, 7))
	wantErr(t, "a long list", vector.Check(long), api.ErrArg)
	wantErr(t, "one Dot again and again", vector.Check(slices.Repeat(of(1, 1), 100000)), api.ErrOrder)
	wantAdded(t, long, dot(5, vector.Get(long, 5)+1))
}

// padded is a copy of a list with spare room behind its end, and the whole of it.
func padded(v api.Vector) (list, whole api.Vector) {
	whole = append(slices.Clone(v), dot(91, 92), dot(93, 94), dot(95, 96))
	return whole[:len(v)], whole
}

// spoil changes all of a list, spare room too.
func spoil(v api.Vector) {
	for i := range v[:cap(v)] {
		v[:cap(v)][i] = dot(-5, -6)
	}
}

// TestMemory: P7.10, W6: no call changes what it is handed, spare room too; an answer shares nothing with it, nor with another answer.
func TestMemory(t *testing.T) {
	r := rand.New(rand.NewSource(710))
	lists := append(upTo(cross([]int{0, 2, 16}, []int{0, 1, 3}), 2), nil, full(3), full(api.MaxSeq))
	for range 200 {
		lists = append(lists, wild(r, 20))
	}
	for i, x := range lists {
		y := lists[(i*17+5)%len(lists)]
		a, wholeA := padded(x)
		b, wholeB := padded(y)
		next := dot(2, wantGet(x, 2)+1)
		ask := func() []api.Vector {
			added, _ := vector.Add(a, next)
			vector.Check(a)
			vector.Get(a, 2)
			vector.Has(a, next)
			vector.Covers(a, b)
			vector.Sum(a)
			return []api.Vector{vector.Merge(a, b), vector.Least(a, b), vector.Merge(a, a), vector.Least(a, a), vector.Merge(a, nil), vector.Merge(nil, a), added}
		}
		first, second := ask(), ask()
		want := make([]api.Vector, len(first))
		for i := range first {
			want[i] = slices.Clone(first[i])
		}
		for i := range first {
			spoil(first[i])
			for k := i + 1; k < len(first); k++ {
				wantList(t, "another answer", first[k], want[k])
			}
			wantList(t, "the answer of another call", second[i], want[i])
		}
		_, freshA := padded(x)
		_, freshB := padded(y)
		wantList(t, "what was handed in", wholeA, freshA)
		wantList(t, "what was handed in", wholeB, freshB)
		spoil(wholeA)
		spoil(wholeB)
		for i := range second {
			wantList(t, "an answer", second[i], want[i])
		}
	}
}
