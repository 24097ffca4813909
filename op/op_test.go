package op_test

import (
	"math"
	"math/rand"
	"reflect"
	"slices"
	"strings"
	"testing"

	"hearsay/api"
	"hearsay/op"
)

func dot(site, seq int) api.Dot { return api.Dot{Site: site, Seq: seq} }

func id(time, site int) api.ID { return api.ID{Time: time, Site: site} }

func run(time, site, count int) api.Run { return api.Run{ID: id(time, site), Count: count} }

// vec is the list of these Sites and Seqs, one behind the other.
func vec(numbers ...int) api.Vector {
	var v api.Vector
	for pair := range slices.Chunk(numbers, 2) {
		v = append(v, dot(pair[0], pair[1]))
	}
	return v
}

// Operations that Check takes, one of each kind; each call makes a new one.

func insert() api.Op {
	return api.Op{Kind: api.OpInsert, Dot: dot(1, 2), Deps: vec(1, 1), ID: id(5, 1), Ref: id(4, 3), Text: "hé"}
}

func remove() api.Op {
	return api.Op{Kind: api.OpDelete, Dot: dot(3, 1), Deps: vec(1, 9, 2, 4), Gone: []api.Run{run(3, 1, 2), run(4, 2, 1)}}
}

func join() api.Op { return api.Op{Kind: api.OpJoin, Dot: dot(2, 1), Site: 2} }

func leave() api.Op { return api.Op{Kind: api.OpLeave, Dot: dot(16, 8), Deps: vec(2, 300, 16, 7)} }

func four() []api.Op { return []api.Op{insert(), remove(), join(), leave()} }

// turned is an operation with something done to it.
func turned(o api.Op, turn func(o *api.Op)) api.Op {
	turn(&o)
	return o
}

// edges is numbers about each limit there is.
var edges = []int{
	math.MinInt, math.MinInt + 1, -api.MaxTime - 1, -api.MaxTime, -api.MaxSites, -1, 0, 1, 2, 3, 4, 5, 6, api.MaxSites - 1, api.MaxSites, api.MaxSites + 1,
	api.MaxText - 1, api.MaxText, api.MaxText + 1, api.MaxTime - 2, api.MaxTime - 1, api.MaxTime, api.MaxTime + 1, math.MaxInt - 1, math.MaxInt,
}

// numbersOf is all numbers that an operation has, where they stand.
func numbersOf(o *api.Op) []*int {
	l := []*int{&o.Kind, &o.Dot.Site, &o.Dot.Seq, &o.ID.Time, &o.ID.Site, &o.Ref.Time, &o.Ref.Site, &o.Site}
	for i := range o.Deps {
		l = append(l, &o.Deps[i].Site, &o.Deps[i].Seq)
	}
	for i := range o.Gone {
		l = append(l, &o.Gone[i].ID.Time, &o.Gone[i].ID.Site, &o.Gone[i].Count)
	}
	return l
}

// clone is the same operation in memory of its own.
func clone(o api.Op) api.Op {
	o.Deps, o.Gone, o.Text = slices.Clone(o.Deps), slices.Clone(o.Gone), strings.Clone(o.Text)
	return o
}

// same tells whether two operations are the same; a nil list and an empty one are.
func same(a, b api.Op) bool {
	lists := slices.Equal(a.Deps, b.Deps) && slices.Equal(a.Gone, b.Gone)
	a.Deps, a.Gone, b.Deps, b.Gone = nil, nil, nil, nil
	return lists && reflect.DeepEqual(a, b)
}

// short is an operation for a message.
func short(o api.Op) api.Op {
	if len(o.Text) > 40 {
		o.Text = o.Text[:40] + ".."
	}
	o.Gone = o.Gone[:min(len(o.Gone), 8)]
	return o
}

// wantAsked holds Check and Last of an operation against what they must be.
func wantAsked(t *testing.T, o api.Op) {
	t.Helper()
	if got, want := op.Check(o), wantCheck(o); got != want {
		t.Errorf("Check(%+v): %d; want %d", short(o), int(got), int(want))
	}
	if got, want := op.Last(o), wantLast(o); got != want {
		t.Errorf("Last(%+v): %d; want %d", short(o), got, want)
	}
}

// wantChecked holds Check of an operation against a word of the chapter, written out.
func wantChecked(t *testing.T, o api.Op, want api.Errno) {
	t.Helper()
	wantAsked(t, o)
	if got := op.Check(o); got != want {
		t.Errorf("Check(%+v): %d; want %d", short(o), int(got), int(want))
	}
}

// wantTurned holds Check of what became of each operation that is turned in one way.
func wantTurned(t *testing.T, o api.Op, want api.Errno, turns ...func(o *api.Op)) {
	t.Helper()
	for _, turn := range turns {
		wantChecked(t, turned(clone(o), turn), want)
	}
}

// TestExamples: the rows of the chapter's examples about Check and Last.
func TestExamples(t *testing.T) {
	wantChecked(t, join(), api.OK)
	wantTurned(t, join(), api.ErrOp, func(o *api.Op) { o.Deps = vec(2, 1) }, func(o *api.Op) { o.Site = 17 })
	wantTurned(t, join(), api.OK, func(o *api.Op) { o.Dot, o.Deps = dot(2, 2), vec(2, 1) })
	wantChecked(t, insert(), api.OK)
	wantTurned(t, insert(), api.ErrOp,
		func(o *api.Op) { o.Ref = id(5, 1) }, func(o *api.Op) { o.ID = id(5, 2) }, func(o *api.Op) { o.Text = "\x68\xff" })
	if a, b, c := op.Last(insert()), op.Last(remove()), op.Last(join()); a != 6 || b != 4 || c != 0 {
		t.Errorf("Last: %d, %d, %d", a, b, c)
	}
}

// TestKinds: P8.1: the four, and whatever number is none of them, whatever else the operation has.
func TestKinds(t *testing.T) {
	for _, o := range four() {
		wantChecked(t, o, api.OK)
		for _, n := range append([]int{7, 8, 255, 256, 257, 1 << 32, 1<<32 + 1, 1<<32 + 3}, edges...) {
			want := api.ErrOp
			if n == o.Kind {
				want = api.OK
			}
			wantTurned(t, o, want, func(o *api.Op) { o.Kind = n })
		}
	}
	for _, n := range edges {
		bare := api.Op{Kind: n, Dot: dot(1, 1)}
		want := api.ErrOp
		if n == api.OpLeave {
			want = api.OK
		}
		wantChecked(t, bare, want)
		wantChecked(t, api.Op{Kind: n}, api.ErrOp)
	}
}

// TestNumbers: P8.1, P8.2, W1: each number of each kind turned by itself, and each two of them, about each limit.
func TestNumbers(t *testing.T) {
	for _, o := range four() {
		for i := range numbersOf(&o) {
			for _, n := range edges {
				one := clone(o)
				*numbersOf(&one)[i] = n
				wantAsked(t, one)
				for k := range i {
					for _, m := range edges {
						two := clone(one)
						*numbersOf(&two)[k] = m
						wantAsked(t, two)
					}
				}
			}
		}
	}
}

// TestDots: P8.1: the limits of Dot's Site and Seq, with the Deps that they ask for.
func TestDots(t *testing.T) {
	for _, o := range four() {
		for _, n := range []int{1, 2, 15, 16} {
			wantTurned(t, o, api.OK, at(n, 1), at(n, 2), at(n, 1000), at(n, api.MaxSeq-1), at(n, api.MaxSeq))
			wantTurned(t, o, api.ErrOp, at(n, 0), at(n, -1), at(n, math.MinInt), at(n, api.MaxSeq+1), at(n, math.MaxInt))
		}
		for _, n := range []int{0, -1, 17, 18, 256 + 1, 1<<32 + 1, math.MinInt, math.MaxInt} {
			wantTurned(t, o, api.ErrOp, at(n, 1), at(n, 2), at(n, api.MaxSeq))
		}
	}
}

// at moves an operation to a dot, with what follows from it: the Deps, and the identifier's Site.
func at(site, seq int) func(o *api.Op) {
	return func(o *api.Op) {
		o.Dot = dot(site, seq)
		if o.Deps = nil; seq != 1 {
			o.Deps = api.Vector{dot(site, seq-1)}
		}
		if o.Kind == api.OpInsert {
			o.ID.Site = site
		}
	}
}

// TestDeps: P8.1: Deps that are vectors, with Seq - 1 operations of Dot's Site and what there may be of others; such as are none; such as have more or fewer.
func TestDeps(t *testing.T) {
	full := func(seq int) api.Vector {
		var v api.Vector
		for n := 1; n <= api.MaxSites; n++ {
			v = append(v, dot(n, seq))
		}
		return v
	}
	for _, o := range four() {
		with := func(site, seq int, deps api.Vector) func(o *api.Op) {
			return func(o *api.Op) {
				at(site, seq)(o)
				o.Deps = deps
			}
		}
		wantTurned(t, o, api.OK,
			with(4, 1, nil), with(4, 1, api.Vector{}), with(4, 1, vec(3, 9)), with(4, 1, vec(5, 9)), with(4, 1, vec(1, api.MaxSeq, 3, 1, 5, api.MaxSeq)),
			with(4, 6, vec(4, 5)), with(4, 6, vec(1, 8, 4, 5, 5, 1, 16, api.MaxSeq)), with(16, 2, full(1)), with(1, api.MaxSeq, full(api.MaxSeq-1)))
		wantTurned(t, o, api.ErrOp,
			with(4, 1, vec(4, 1)), with(4, 1, vec(3, 1, 4, 1)), with(4, 2, nil), with(4, 2, vec(3, 1)), with(4, 6, vec(4, 4)), with(4, 6, vec(4, 6)), with(4, 6, vec(3, 5)),
			with(4, 6, vec(5, 5)), with(1, api.MaxSeq, full(api.MaxSeq)), with(4, api.MaxSeq, vec(4, api.MaxSeq)), with(4, 3, full(3)), with(4, 3, full(1)))
		// Lists that are no vectors, though what they say would do.
		wantTurned(t, o, api.ErrOp,
			with(4, 6, vec(4, 5, 4, 5)), with(4, 6, vec(4, 5, 4, 3)), with(4, 6, vec(4, 3, 4, 5)), with(4, 6, vec(4, 5, 2, 1)), with(4, 6, vec(4, 5, 5, 0)),
			with(4, 6, vec(4, 5, 5, -1)), with(4, 6, vec(4, 5, 5, api.MaxSeq+1)), with(4, 6, vec(0, 1, 4, 5)), with(4, 6, vec(0, 0, 4, 5)), with(4, 6, vec(4, 5, 17, 1)),
			with(4, 6, vec(-1, 1, 4, 5)), with(4, 6, vec(4, 5, math.MaxInt, 1)), with(4, 6, vec(4, 5, 5, math.MaxInt)), with(4, 6, vec(math.MinInt, math.MinInt, 4, 5)),
			with(4, 1, vec(4, 0)), with(4, 1, vec(0, 0)), with(4, 1, vec(17, 1)), with(4, 1, vec(3, 0)), with(4, 1, vec(5, 1, 3, 1)), with(4, 6, append(full(5), dot(16, 5))))
	}
}

// TestTexts: P8.1: empty, not good, of MaxText runes and of one more, of runes of each width.
func TestTexts(t *testing.T) {
	text := func(s string) func(o *api.Op) { return func(o *api.Op) { o.Text = s } }
	for _, s := range []string{"a", "\x00", "\n", "é", "€", "𝄞", "\uFFFD", "\u007f\u0080\u07ff\u0800\ud7ff\ue000\uffff\U00010000\U0010ffff", "e\u0301", "\r\n"} {
		wantTurned(t, insert(), api.OK, text(s), text("ab"+s+"c"))
	}
	for _, s := range []string{"\xff", "\x80", "\xc3", "\xe2\x82", "\xc0\x80", "\xed\xa0\x80", "\xf4\x90\x80\x80", "\xf0\x9d\x84", "\xf8\x88\x80\x80\x80"} {
		wantTurned(t, insert(), api.ErrOp, text(s), text(s+"a"), text("a"+s), text(strings.Repeat("é", api.MaxText-1)+s))
	}
	wantTurned(t, insert(), api.ErrOp, text(""))
	for _, r := range []string{"a", "é", "€", "𝄞"} {
		for _, n := range []int{1, 2, api.MaxText/4 + 1, api.MaxText/2 + 1, api.MaxText - 1, api.MaxText} {
			wantTurned(t, insert(), api.OK, text(strings.Repeat(r, n)))
		}
		for _, n := range []int{api.MaxText + 1, api.MaxText + 2, 2 * api.MaxText, 1 << 16, 1<<16 + 1, 1 << 20} {
			wantTurned(t, insert(), api.ErrOp, text(strings.Repeat(r, n)))
		}
	}
}

// TestIDs: P8.1, P8.2: identifiers that are none, those of another site, and the last times that a text may come to.
func TestIDs(t *testing.T) {
	first := func(i api.ID) func(o *api.Op) {
		return func(o *api.Op) { o.ID, o.Ref = i, api.ID{} }
	}
	wantTurned(t, insert(), api.OK, first(id(1, 1)), first(id(2, 1)), first(id(api.MaxTime-1, 1)))
	wantTurned(t, insert(), api.ErrOp,
		first(id(0, 0)), first(id(0, 1)), first(id(-1, 1)), first(id(math.MinInt, 1)), first(id(api.MaxTime, 1)), first(id(api.MaxTime+1, 1)), first(id(math.MaxInt, 1)), first(id(math.MaxInt-1, 1)),
		first(id(5, 0)), first(id(5, 2)), first(id(5, -1)), first(id(5, 16)), first(id(5, 17)), first(id(5, 1<<32+1)))
	for _, n := range []int{1, 2, 3, 127, api.MaxText - 1, api.MaxText} {
		for late := range 4 {
			o := turned(insert(), func(o *api.Op) { o.ID.Time, o.Text = api.MaxTime-n+late, strings.Repeat("€", n) })
			want, last := api.OK, api.MaxTime-1+late
			if late > 1 {
				want, last = api.ErrOp, 0
			}
			wantChecked(t, o, want)
			if got := op.Last(o); got != last {
				t.Errorf("Last of %d runes, the last one %d behind MaxTime: %d", n, late-1, got)
			}
		}
	}
}

// TestRefs: P8.1: the beginning, identifiers of all sites, such as are none, and times about that of ID.
func TestRefs(t *testing.T) {
	ref := func(time, site int) func(o *api.Op) { return func(o *api.Op) { o.Ref = id(time, site) } }
	for n := 1; n <= api.MaxSites; n++ {
		wantTurned(t, insert(), api.OK, ref(4, n), ref(1, n))
		wantTurned(t, insert(), api.ErrOp, ref(5, n), ref(6, n), ref(7, n), ref(0, n), ref(-1, n), ref(math.MinInt, n), ref(api.MaxTime, n), ref(api.MaxTime+1, n), ref(math.MaxInt, n))
	}
	wantTurned(t, insert(), api.OK, ref(0, 0))
	wantTurned(t, insert(), api.ErrOp, ref(4, 0), ref(4, 17), ref(4, -1), ref(4, math.MinInt), ref(4, math.MaxInt), ref(1, 0), ref(0, -1), ref(0, 17), ref(-1, 0), ref(-4, -3))
	late := turned(insert(), func(o *api.Op) { o.ID.Time, o.Text = api.MaxTime, "a" })
	wantTurned(t, late, api.OK, ref(api.MaxTime-1, 16), ref(0, 0), ref(1, 1))
	wantTurned(t, late, api.ErrOp, ref(api.MaxTime, 16), ref(api.MaxTime, 1), ref(api.MaxTime+1, 1))
	early := turned(insert(), func(o *api.Op) { o.ID.Time = 1 })
	wantTurned(t, early, api.OK, ref(0, 0))
	wantTurned(t, early, api.ErrOp, ref(1, 1), ref(1, 2), ref(0, 1))
}

// spread is so many runs of one identifier each, in their form.
func spread(n int) []api.Run {
	var l []api.Run
	for i := range n {
		l = append(l, run(1+i/8, 1+i%8*2+i/8%2, 1))
	}
	return l
}

// TestGone: P8.1: how many runs, their limits, and such as are not in their form.
func TestGone(t *testing.T) {
	gone := func(runs ...api.Run) func(o *api.Op) { return func(o *api.Op) { o.Gone = runs } }
	wantTurned(t, remove(), api.OK,
		gone(run(1, 1, 1)), gone(run(1, 16, api.MaxTime)), gone(run(api.MaxTime, 16, 1)), gone(run(2, 1, api.MaxTime-1)), gone(run(1, 1, 1), run(1, 2, 1)), gone(run(1, 1, 2), run(4, 1, 1)),
		gone(run(1, 2, 9), run(2, 1, 9), run(12, 1, 1)), gone(run(3, 3, 1)))
	wantTurned(t, remove(), api.ErrOp,
		gone(), gone(run(1, 1, 0)), gone(run(1, 1, -1)), gone(run(1, 1, math.MinInt)), gone(run(1, 1, math.MaxInt)), gone(run(1, 1, api.MaxTime+1)), gone(run(2, 1, api.MaxTime)),
		gone(run(api.MaxTime, 1, 2)), gone(run(api.MaxTime+1, 1, 1)), gone(run(math.MaxInt, 1, math.MaxInt)), gone(run(0, 1, 1)), gone(run(-1, 1, 5)), gone(run(1, 0, 1)), gone(run(1, 17, 1)), gone(api.Run{}),
		gone(run(1, 1, 1), run(1, 1, 1)), gone(run(2, 1, 1), run(1, 2, 1)), gone(run(1, 2, 1), run(1, 1, 1)), gone(run(1, 1, 2), run(2, 1, 2)), gone(run(1, 1, 2), run(3, 1, 1)),
		gone(run(1, 1, 3), run(1, 2, 1), run(2, 1, 1)), gone(run(1, 1, 1), run(1, 2, 1), run(2, 1, 1)), gone(run(1, 1, 1), api.Run{}), gone(run(1, 1, 1), run(3, 1, 0)))
	for _, n := range []int{1, 2, 255, 256, api.MaxGone - 1, api.MaxGone} {
		wantTurned(t, remove(), api.OK, gone(spread(n)...))
		// The last one of them counts as well as the first.
		for _, i := range []int{0, n / 2, n - 1} {
			wantTurned(t, remove(), api.ErrOp, func(o *api.Op) {
				o.Gone = spread(n)
				o.Gone[i].Count = 0
			})
		}
	}
	for _, n := range []int{api.MaxGone + 1, api.MaxGone + 2, 2 * api.MaxGone, 1 << 14} {
		wantTurned(t, remove(), api.ErrOp, gone(spread(n)...))
	}
}

// TestJoins: P8.1: which sites may be named, whoever names them.
func TestJoins(t *testing.T) {
	names := func(n int) func(o *api.Op) { return func(o *api.Op) { o.Site = n } }
	for n := 1; n <= api.MaxSites; n++ {
		wantTurned(t, join(), api.OK, names(n))
		wantTurned(t, turned(join(), at(n, 7)), api.OK, names(n), names(api.MaxSites+1-n))
	}
	wantTurned(t, join(), api.ErrOp, names(0), names(-1), names(17), names(18), names(1<<32+1), names(math.MinInt), names(math.MaxInt))
}

// beside is each thing that may stand in an operation where its kind has none, with the field's name.
var beside = []struct {
	field string
	set   func(o *api.Op)
}{
	{"ID", func(o *api.Op) { o.ID = id(1, 1) }},
	{"ID", func(o *api.Op) { o.ID.Time = 1 }},
	{"ID", func(o *api.Op) { o.ID.Site = o.Dot.Site }},
	{"ID", func(o *api.Op) { o.ID.Site = math.MinInt }},
	{"Ref", func(o *api.Op) { o.Ref = id(1, 1) }},
	{"Ref", func(o *api.Op) { o.Ref.Time = -1 }},
	{"Ref", func(o *api.Op) { o.Ref.Site = 1 }},
	{"Text", func(o *api.Op) { o.Text = "a" }},
	{"Text", func(o *api.Op) { o.Text = "\x00" }},
	{"Text", func(o *api.Op) { o.Text = "\xff" }},
	{"Gone", func(o *api.Op) { o.Gone = []api.Run{run(1, 1, 1)} }},
	{"Gone", func(o *api.Op) { o.Gone = []api.Run{{}} }},
	{"Gone", func(o *api.Op) { o.Gone = spread(api.MaxGone) }},
	{"Site", func(o *api.Op) { o.Site = 1 }},
	{"Site", func(o *api.Op) { o.Site = o.Dot.Site }},
	{"Site", func(o *api.Op) { o.Site = -1 }},
	{"Site", func(o *api.Op) { o.Site = math.MaxInt }},
}

// TestBeside: P8.1, W5: each thing that a kind does not have set beside it; a list without an element is none.
func TestBeside(t *testing.T) {
	for _, o := range four() {
		tried := 0
		for _, x := range beside {
			if !slices.Contains(has[o.Kind], x.field) {
				wantTurned(t, o, api.ErrOp, x.set)
				tried++
			}
		}
		if tried < 5 {
			t.Errorf("the kind %d: %d things beside", o.Kind, tried)
		}
		if o.Kind != api.OpDelete {
			wantTurned(t, o, api.OK, func(o *api.Op) { o.Gone = []api.Run{} }, func(o *api.Op) { o.Gone = spread(9)[:0] })
		}
	}
}

// TestLast: P8.2: of each kind, at the first and the last times, of runs of which an early one ends last; of what Check refuses nothing.
func TestLast(t *testing.T) {
	for _, x := range []struct {
		gone []api.Run
		want int
	}{
		{[]api.Run{run(1, 1, 1)}, 1}, {[]api.Run{run(1, 1, api.MaxTime)}, api.MaxTime}, {[]api.Run{run(api.MaxTime, 1, 1)}, api.MaxTime},
		{[]api.Run{run(1, 1, 9), run(2, 2, 1)}, 9}, {[]api.Run{run(1, 1, 1), run(2, 2, 9)}, 10}, {[]api.Run{run(1, 1, 2), run(2, 2, 20), run(4, 1, 2)}, 21},
		{[]api.Run{run(1, 1, api.MaxTime), run(1, 2, 5)}, api.MaxTime}, {[]api.Run{run(1, 1, 5), run(1, 2, api.MaxTime)}, api.MaxTime}, {spread(api.MaxGone), api.MaxGone / 8},
	} {
		o := turned(remove(), func(o *api.Op) { o.Gone = x.gone })
		wantAsked(t, o)
		if got := op.Last(o); got != x.want {
			t.Errorf("Last(%+v): %d; want %d", short(o), got, x.want)
		}
	}
	for text, want := range map[string]int{"a": 5, "hé": 6, "𝄞𝄞𝄞": 7, strings.Repeat("€", api.MaxText): 4 + api.MaxText} {
		if got := op.Last(turned(insert(), func(o *api.Op) { o.Text = text })); got != want {
			t.Errorf("Last of the insert of %.20q: %d; want %d", text, got, want)
		}
	}
	for _, o := range []api.Op{join(), leave(), {}, turned(leave(), func(o *api.Op) { o.ID = id(7, 16) }), turned(join(), func(o *api.Op) { o.Gone = spread(3) })} {
		if got := op.Last(o); got != 0 {
			t.Errorf("Last(%+v): %d", o, got)
		}
	}
	for _, o := range []api.Op{insert(), remove()} {
		for _, turn := range []func(o *api.Op){func(o *api.Op) { o.Dot.Seq++ }, func(o *api.Op) { o.Site = 1 }, func(o *api.Op) { o.Kind = api.OpLeave }, func(o *api.Op) { o.Kind = 0 }, func(o *api.Op) { o.Deps = vec(1, 0) }} {
			if got := op.Last(turned(clone(o), turn)); got != 0 {
				t.Errorf("Last of what Check refuses: %d", got)
			}
		}
	}
}

// right is an operation that Check takes, of any kind, of any numbers.
func right(r *rand.Rand) api.Op {
	small := func(n int) int { return 1 + r.Intn(1+r.Intn(n)) }
	o := api.Op{Kind: 1 + r.Intn(4), Dot: dot(small(api.MaxSites), small(api.MaxSeq))}
	for n := 1; n <= api.MaxSites; n++ {
		if n == o.Dot.Site && o.Dot.Seq > 1 {
			o.Deps = append(o.Deps, dot(n, o.Dot.Seq-1))
		}
		if n != o.Dot.Site && r.Intn(4) == 0 {
			o.Deps = append(o.Deps, dot(n, small(api.MaxSeq)))
		}
	}
	switch o.Kind {
	case api.OpInsert:
		for range small(8) {
			o.Text += []string{"a", "é", "€", "𝄞", "\x00", "\uFFFD"}[r.Intn(6)]
		}
		o.ID = id(small(api.MaxTime-8), o.Dot.Site)
		if o.ID.Time > 1 && r.Intn(3) > 0 {
			o.Ref = id(small(o.ID.Time-1), small(api.MaxSites))
		}
	case api.OpDelete:
		from := small(api.MaxTime - 99)
		for range small(8) {
			from += small(9)
			o.Gone = append(o.Gone, run(from, small(api.MaxSites), 1))
			from += small(3)
		}
		for range r.Intn(3) {
			o.Gone[r.Intn(len(o.Gone))].Count++
		}
		if !wantRuns(o.Gone) {
			o.Gone = o.Gone[:1]
		}
	case api.OpJoin:
		o.Site = small(api.MaxSites)
	}
	return o
}

// TestMany: P8.1, P8.2: operations of all kinds, right ones and such with some things turned.
func TestMany(t *testing.T) {
	r := rand.New(rand.NewSource(8))
	for range 20000 {
		o := right(r)
		wantChecked(t, o, api.OK)
		for range 1 + r.Intn(2) {
			l := numbersOf(&o)
			if n := l[r.Intn(len(l))]; r.Intn(2) == 0 {
				*n = edges[r.Intn(len(edges))]
			} else {
				*n += r.Intn(5) - 2
			}
		}
		wantAsked(t, o)
		if t.Failed() {
			return
		}
	}
}
