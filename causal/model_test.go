package causal_test

import (
	"reflect"
	"slices"
	"strings"
	"testing"

	"hearsay/api"
	"hearsay/causal"
	"hearsay/op"
)

// What the chapter says, worked out a second time by other means: what was delivered is never forgotten, taken or not, and each vector is counted anew out of it. What waits stands in a map by its Dot, with the number of the offer that brought it; whatever comes first or is the farthest is sorted out of all of them.

type model struct {
	hold   int
	began  api.Vector
	came   []api.Op // all that were ever delivered
	taken  int      // how many of them were taken
	waits  map[api.Dot]waiter
	offers int
}

// waiter is an operation that waits, and which offer brought it.
type waiter struct {
	o    api.Op
	when int
}

// says is how many operations of a site a vector has.
func says(v api.Vector, site int) int {
	for _, d := range v {
		if d.Site == site {
			return d.Seq
		}
	}
	return 0
}

func has(v api.Vector, d api.Dot) bool { return d.Seq <= says(v, d.Site) }

// each is the vector that says this of each site.
func each(count func(site int) int) api.Vector {
	var v api.Vector
	for site := 1; site <= api.MaxSites; site++ {
		if n := count(site); n != 0 {
			v = append(v, dot(site, n))
		}
	}
	return v
}

func merged(a, b api.Vector) api.Vector {
	return each(func(site int) int { return max(says(a, site), says(b, site)) })
}

func sum(v api.Vector) int {
	n := 0
	for _, d := range v {
		n += d.Seq
	}
	return n
}

// wantCheck is the first one of all that stands against a list of Dots.
func wantCheck(v api.Vector) api.Errno {
	var all []api.Errno
	for i, d := range v {
		if d.Site < 1 || d.Site > 16 {
			all = append(all, api.ErrArg)
		}
		if d.Seq < 1 || d.Seq>>31 != 0 {
			all = append(all, api.ErrForm)
		}
		if i > 0 && d.Site <= v[i-1].Site {
			all = append(all, api.ErrOrder)
		}
	}
	return append(all, api.OK)[0]
}

// count is how many operations of a site were delivered: those ahead of the queue, and each that came.
func (m *model) count(site int) int {
	n := says(m.began, site)
	for _, o := range m.came {
		if o.Dot.Site == site {
			n++
		}
	}
	return n
}

func (m *model) vector() api.Vector { return each(m.count) }

// ripe tells whether an operation can be delivered.
func (m *model) ripe(o api.Op) bool {
	lacks := func(d api.Dot) bool { return d.Seq > m.count(d.Site) }
	return m.count(o.Dot.Site) == o.Dot.Seq-1 && !slices.ContainsFunc(o.Deps, lacks)
}

// queue is those that wait and pass, by the number of the offer that brought them.
func (m *model) queue(pass func(o api.Op) bool) []waiter {
	var l []waiter
	for _, w := range m.waits {
		if pass(w.o) {
			l = append(l, w)
		}
	}
	slices.SortFunc(l, func(a, b waiter) int { return a.when - b.when })
	return l
}

// distance is what tells how far an operation is: the first number that differs.
func distance(o api.Op) []int { return []int{sum(o.Deps), o.Dot.Site, o.Dot.Seq} }

func (m *model) offer(o api.Op) (int, api.Errno) {
	if op.Check(o) != api.OK {
		return 0, api.ErrOp
	}
	if _, waits := m.waits[o.Dot]; waits || o.Dot.Seq <= m.count(o.Dot.Site) {
		return causal.Had, api.OK
	}
	m.offers++
	m.waits[o.Dot] = waiter{clone(o), m.offers}
	if m.ripe(o) {
		// The offered one goes first, since it alone can; of the others the earliest each time.
		for free := m.queue(m.ripe); len(free) > 0; free = m.queue(m.ripe) {
			m.came = append(m.came, free[0].o)
			delete(m.waits, free[0].o.Dot)
		}
		return causal.Taken, api.OK
	}
	if len(m.waits) > m.hold {
		all := m.queue(func(api.Op) bool { return true })
		slices.SortFunc(all, func(a, b waiter) int { return slices.Compare(distance(b.o), distance(a.o)) })
		delete(m.waits, all[0].o.Dot)
	}
	if _, waits := m.waits[o.Dot]; !waits {
		return causal.Dropped, api.OK
	}
	return causal.Held, api.OK
}

func (m *model) take() (api.Op, bool) {
	if m.taken == len(m.came) {
		return api.Op{}, false
	}
	m.taken++
	return m.came[m.taken-1], true
}

// dots is the Dots that wait, in their order: the sites one by one, and of each its Seqs.
func (m *model) dots() []api.Dot {
	var l []api.Dot
	for site := 1; site <= api.MaxSites; site++ {
		var seqs []int
		for d := range m.waits {
			if d.Site == site {
				seqs = append(seqs, d.Seq)
			}
		}
		slices.Sort(seqs)
		for _, seq := range seqs {
			l = append(l, dot(site, seq))
		}
	}
	return l
}

// clone is the same operation in memory of its own.
func clone(o api.Op) api.Op {
	o.Deps, o.Gone, o.Text = slices.Clone(o.Deps), slices.Clone(o.Gone), strings.Clone(o.Text)
	return o
}

// same tells whether two operations are the same; a nil list and an empty one are.
func same(a, b api.Op) bool {
	lists := slices.Equal(a.Deps, b.Deps) && slices.Equal(a.Gone, b.Gone)
	a.Deps, a.Gone, b.Deps, b.Gone = nil, nil, nil, nil
	return lists && reflect.DeepEqual(a, b)
}

// What is handed in has spare room, and is spoilt behind the call; so is what was answered, as far as its room goes. So whatever a queue shares shows in whatever is asked of it later.

// roomy is a list with room behind its end, in which something stands.
func roomy[L ~[]E, E any](list L, junk E) L {
	room := append(slices.Clone(list), junk, junk, junk)
	return room[: len(list) : len(list)+3]
}

var (
	junkDot = dot(-77, -78)
	junkRun = run(-79, -80, -81)
)

func roomyOp(o api.Op) api.Op {
	o.Deps, o.Gone = roomy(o.Deps, junkDot), roomy(o.Gone, junkRun)
	return o
}

// whole is an operation whose lists reach to the end of their room.
func whole(o api.Op) api.Op {
	o.Deps, o.Gone = o.Deps[:cap(o.Deps)], o.Gone[:cap(o.Gone)]
	return o
}

func spoil[L ~[]E, E any](list L, junk E) {
	list = list[:cap(list)]
	for i := range list {
		list[i] = junk
	}
}

func spoilOp(o api.Op) {
	spoil(o.Deps, junkDot)
	spoil(o.Gone, junkRun)
}

// dotsOf is Dots that were answered, which are spoilt then.
func dotsOf[L ~[]api.Dot](l L) L {
	kept := slices.Clone(l)
	spoil(l, junkDot)
	return kept
}

// both is a queue, and the same worked out a second time.
type both struct {
	queue *causal.Queue
	model *model
}

// begun is a queue behind a vector, after these operations, none of which it may refuse.
func begun(t *testing.T, hold int, v api.Vector, ops ...api.Op) both {
	t.Helper()
	given := roomy(v, junkDot)
	q, err := causal.New(hold, given)
	wantErr(t, v, err, api.OK)
	spoil(given, junkDot)
	b := both{q, modelled(hold, v)}
	for _, o := range ops {
		b.must(t, o)
	}
	return b
}

func modelled(hold int, v api.Vector) *model {
	return &model{hold: hold, began: slices.Clone(v), waits: map[api.Dot]waiter{}}
}

// offer offers an operation twice over, holds what is answered against what it must be, and says it.
func (b both) offer(t *testing.T, o api.Op) (int, api.Errno) {
	t.Helper()
	given := roomyOp(o)
	became, err := b.queue.Offer(given)
	want, wantE := b.model.offer(o)
	wantErr(t, o, err, wantE)
	wantInt(t, o, became, want)
	if !same(whole(given), whole(roomyOp(o))) {
		t.Errorf("Offer has made %+v of %+v", whole(given), o)
	}
	spoilOp(given)
	return became, err
}

// must offers an operation that may not be refused, and says what became of it.
func (b both) must(t *testing.T, o api.Op) int {
	t.Helper()
	became, err := b.offer(t, o)
	wantErr(t, o, err, api.OK)
	return became
}

// take takes twice over, holds what is answered against what it must be, and says it.
func (b both) take(t *testing.T) (api.Op, bool) {
	t.Helper()
	o, ok := b.queue.Take()
	got := clone(o)
	spoilOp(o)
	want, wantOk := b.model.take()
	if ok != wantOk || !same(got, want) {
		t.Errorf("Take: %+v, %v; want %+v, %v", got, ok, want, wantOk)
	}
	if !ok && !reflect.ValueOf(o).IsZero() {
		t.Errorf("Take: %+v beside false", o)
	}
	return got, ok
}

// drain takes until there is nothing, and beyond.
func (b both) drain(t *testing.T) []api.Op {
	t.Helper()
	var l []api.Op
	for range len(b.model.came) + 1 {
		if o, ok := b.take(t); ok {
			l = append(l, o)
		}
	}
	for range 2 {
		if o, ok := b.take(t); ok {
			t.Errorf("Take behind the last one: %+v", o)
		}
	}
	return l
}

// wantUnchanged holds a list that was handed in, and its spare room, against what it was.
func wantUnchanged(t *testing.T, what string, given, was api.Vector) {
	t.Helper()
	if !slices.Equal(given[:cap(given)], append(slices.Clone(was), junkDot, junkDot, junkDot)) {
		t.Errorf("%s has made %v of %v", what, given[:cap(given)], was)
	}
}

// wantErr holds an error against what it must be.
func wantErr(t *testing.T, about any, got, want api.Errno) {
	t.Helper()
	if got != want {
		t.Errorf("%+v: error %d; want %d", about, int(got), int(want))
	}
}

// wantInt holds a number against what it must be.
func wantInt(t *testing.T, about any, got, want int) {
	t.Helper()
	if got != want {
		t.Errorf("%+v: %d; want %d", about, got, want)
	}
}

// wantDots holds Dots against what they must be.
func wantDots[L ~[]api.Dot](t *testing.T, what string, got L, want []api.Dot) {
	t.Helper()
	if !slices.Equal(got, want) {
		t.Errorf("%s: %v; want %v", what, got, want)
	}
}

// wantOps holds operations against what they must be, whole.
func wantOps(t *testing.T, what string, got, want []api.Op) {
	t.Helper()
	if !slices.EqualFunc(got, want, same) {
		t.Errorf("%s: %+v; want %+v", what, got, want)
	}
}

// wantQueue holds what a queue tells of itself against what it must be, and against P13.6 and P13.7.
func wantQueue(t *testing.T, b both) {
	t.Helper()
	waits, vector, free := dotsOf(b.queue.Waits()), dotsOf(b.queue.Vector()), b.queue.Free()
	wantDots(t, "Waits", waits, b.model.dots())
	wantDots(t, "Vector", vector, b.model.vector())
	if free != b.model.hold-len(waits) || free < 0 {
		t.Errorf("Free: %d; %d wait, and %d may", free, len(waits), b.model.hold)
	}
	for i, d := range waits {
		if has(vector, d) || i > 0 && slices.Compare([]int{waits[i-1].Site, waits[i-1].Seq}, []int{d.Site, d.Seq}) >= 0 {
			t.Errorf("Waits: %v behind %v", waits, vector)
		}
		if w := b.model.waits[d]; b.model.ripe(w.o) {
			t.Errorf("%+v waits, and could be delivered", w.o)
		}
	}
	wantCausal(t, b.model.began, b.model.came)
	if sum(vector) != sum(b.model.began)+len(b.model.came) {
		t.Errorf("%v; it began with %v, and %d came", vector, b.model.began, len(b.model.came))
	}
}

// wantCausal holds what came of a queue against P13.6: behind what it began with, each comes behind its Deps and behind its site's earlier ones, and none twice.
func wantCausal(t *testing.T, began api.Vector, came []api.Op) {
	t.Helper()
	at := map[api.Dot]bool{}
	for _, o := range came {
		if at[o.Dot] || has(began, o.Dot) {
			t.Errorf("%v came twice", o.Dot)
		}
		for _, d := range append(slices.Clone(o.Deps), dot(o.Dot.Site, o.Dot.Seq-1)) {
			if !at[d] && !has(began, d) && d.Seq > 0 {
				t.Errorf("%v came ahead of %v", o.Dot, d)
			}
		}
		at[o.Dot] = true
	}
}
