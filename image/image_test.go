package image_test

import (
	"math"
	"math/rand"
	"reflect"
	"slices"
	"testing"

	"hearsay/api"
	"hearsay/image"
)

func dot(site, seq int) api.Dot { return api.Dot{Site: site, Seq: seq} }

func id(time, site int) api.ID { return api.ID{Time: time, Site: site} }

func run(time, site, count int) api.Run { return api.Run{ID: id(time, site), Count: count} }

// vec is the list of these Sites and Seqs, one behind the other.
func vec(numbers ...int) api.Vector {
	var v api.Vector
	for pair := range slices.Chunk(numbers, 2) {
		v = append(v, dot(pair[0], pair[1]))
	}
	return v
}

func node(of, ref api.ID, r rune, state int) api.Node {
	return api.Node{ID: of, Ref: ref, Rune: r, State: state}
}

var beginning api.ID

// The operations of the chapter's examples; each call makes a new one.

func join() api.Op { return api.Op{Kind: api.OpJoin, Dot: dot(1, 1), Site: 1} }

func hello() api.Op {
	return api.Op{Kind: api.OpInsert, Dot: dot(1, 2), Deps: vec(1, 1), ID: id(1, 1), Text: "hé"}
}

// first is the image I of the chapter's examples.
func first() api.Image {
	return api.Image{
		Vector: vec(1, 2), Clock: 2, Log: []api.Op{join(), hello()},
		Nodes:  []api.Node{node(id(1, 1), beginning, 'h', api.StateShown), node(id(2, 1), id(1, 1), 'é', api.StateShown)},
		Joined: []int{1}, Epoch: 1,
	}
}

// rich is an image with all that there may be: a base, operations of each kind, nodes of each state that stand behind one another in many ways, sites that have joined, left, and both.
func rich() api.Image {
	return api.Image{
		Vector: vec(1, 5, 2, 3, 3, 1, 16, 8), Base: vec(1, 4, 2, 1, 16, 7), Clock: 12,
		Log: []api.Op{
			{Kind: api.OpInsert, Dot: dot(2, 2), Deps: vec(1, 4, 2, 1), ID: id(9, 2), Ref: id(3, 1), Text: "é𝄞"},
			{Kind: api.OpJoin, Dot: dot(1, 5), Deps: vec(1, 4), Site: 3},
			{Kind: api.OpDelete, Dot: dot(3, 1), Deps: vec(1, 5, 2, 2), Gone: []api.Run{run(2, 1, 1), run(9, 2, 2)}},
			{Kind: api.OpLeave, Dot: dot(16, 8), Deps: vec(2, 2, 16, 7)},
			{Kind: api.OpInsert, Dot: dot(2, 3), Deps: vec(2, 2), ID: id(11, 2), Ref: beginning, Text: "x"},
		},
		Nodes: []api.Node{
			node(id(11, 2), beginning, 'x', api.StateShown),
			node(id(1, 1), beginning, 'a', api.StateSettled),
			node(id(3, 1), id(1, 1), 'b', api.StateShown),
			node(id(9, 2), id(3, 1), 'é', api.StateDeleted),
			node(id(10, 2), id(9, 2), '𝄞', api.StateDeleted),
			node(id(2, 16), id(1, 1), 0, api.StateShown),
			node(id(2, 1), id(1, 1), api.Bad, api.StateDeleted),
			node(id(5, 3), id(2, 1), '\n', api.StateShown),
		},
		Joined: []int{1, 2, 3, 16}, Left: []int{4, 16}, Epoch: 5,
	}
}

func clone(m api.Image) api.Image {
	m.Vector, m.Base, m.Nodes, m.Joined, m.Left = slices.Clone(m.Vector), slices.Clone(m.Base), slices.Clone(m.Nodes), slices.Clone(m.Joined), slices.Clone(m.Left)
	m.Log = slices.Clone(m.Log)
	for i := range m.Log {
		o := &m.Log[i]
		o.Deps, o.Gone = slices.Clone(o.Deps), slices.Clone(o.Gone)
	}
	return m
}

// bare is an image whose empty lists are nil.
func bare(m api.Image) api.Image {
	m = clone(m)
	for i := range m.Log {
		o := &m.Log[i]
		o.Deps, o.Gone = append(api.Vector(nil), o.Deps...), append([]api.Run(nil), o.Gone...)
	}
	m.Log, m.Nodes = append([]api.Op(nil), m.Log...), append([]api.Node(nil), m.Nodes...)
	m.Vector, m.Base = append(api.Vector(nil), m.Vector...), append(api.Vector(nil), m.Base...)
	m.Joined, m.Left = append([]int(nil), m.Joined...), append([]int(nil), m.Left...)
	return m
}

// same tells whether two images are the same; a nil list and an empty one are.
func same(a, b api.Image) bool { return reflect.DeepEqual(bare(a), bare(b)) }

// turn is something that is done to an image.
type turn func(m *api.Image)

func turned(m api.Image, turns ...turn) api.Image {
	for _, do := range turns {
		do(&m)
	}
	return m
}

// edges is numbers about each limit there is.
var edges = []int{
	math.MinInt, -api.MaxTime - 1, -1, 0, 1, 2, 3, 4, 5, api.MaxSites, api.MaxSites + 1, 0xd7ff, 0xd800, 0xdfff, 0xe000, 0x10ffff, 0x110000,
	api.MaxTime - 1, api.MaxTime, api.MaxTime + 1, 1 << 32, 1<<32 + 1, math.MaxInt,
}

// few is the same for what is turned two at a time.
var few = []int{-1, 0, 2, 9, 17, math.MaxInt}

// numbersOf is how each number of an image is turned.
func numbersOf(m *api.Image) []func(n int) {
	var l []func(n int)
	add := func(places ...*int) {
		for _, at := range places {
			l = append(l, func(n int) { *at = n })
		}
	}
	dots := func(v api.Vector) {
		for i := range v {
			add(&v[i].Site, &v[i].Seq)
		}
	}
	dots(m.Vector)
	dots(m.Base)
	add(&m.Clock, &m.Epoch)
	for i := range m.Log {
		o := &m.Log[i]
		add(&o.Kind, &o.Dot.Site, &o.Dot.Seq, &o.ID.Time, &o.ID.Site, &o.Ref.Time, &o.Ref.Site, &o.Site)
		dots(o.Deps)
		for k := range o.Gone {
			add(&o.Gone[k].ID.Time, &o.Gone[k].ID.Site, &o.Gone[k].Count)
		}
	}
	for i := range m.Nodes {
		n := &m.Nodes[i]
		add(&n.ID.Time, &n.ID.Site, &n.Ref.Time, &n.Ref.Site, &n.State)
		l = append(l, func(to int) { n.Rune = rune(to) })
	}
	for _, sites := range [][]int{m.Joined, m.Left} {
		for i := range sites {
			add(&sites[i])
		}
	}
	return l
}

// shuffles is how each thing of a list is left out, comes twice, side by side and at the end, and changes its place with each one behind it.
func shuffles[T any](length int, list func(m *api.Image) *[]T) []turn {
	var l []turn
	for i := range length {
		l = append(l, func(m *api.Image) { at := list(m); *at = slices.Delete(slices.Clone(*at), i, i+1) })
		l = append(l, func(m *api.Image) { at := list(m); *at = slices.Insert(slices.Clone(*at), i, (*at)[i]) })
		l = append(l, func(m *api.Image) { at := list(m); *at = append(slices.Clone(*at), (*at)[i]) })
		for k := i + 1; k < length; k++ {
			l = append(l, func(m *api.Image) { at := *list(m); at[i], at[k] = at[k], at[i] })
		}
	}
	return l
}

func allShuffles(m api.Image) []turn {
	return slices.Concat(
		shuffles(len(m.Vector), func(m *api.Image) *[]api.Dot { return (*[]api.Dot)(&m.Vector) }),
		shuffles(len(m.Base), func(m *api.Image) *[]api.Dot { return (*[]api.Dot)(&m.Base) }),
		shuffles(len(m.Log), func(m *api.Image) *[]api.Op { return &m.Log }),
		shuffles(len(m.Nodes), func(m *api.Image) *[]api.Node { return &m.Nodes }),
		shuffles(len(m.Joined), func(m *api.Image) *[]int { return &m.Joined }),
		shuffles(len(m.Left), func(m *api.Image) *[]int { return &m.Left }),
	)
}

// wantAsked holds Check of an image against what it must be.
func wantAsked(t *testing.T, m api.Image) {
	t.Helper()
	if got, want := image.Check(m), wantCheck(m); got != want {
		t.Errorf("Check(%+v): %d; want %d", m, int(got), int(want))
	}
}

// wantChecked holds Check of an image against a word of the chapter, written out.
func wantChecked(t *testing.T, m api.Image, want api.Errno) {
	t.Helper()
	wantAsked(t, m)
	if got := image.Check(m); got != want {
		t.Errorf("Check(%+v): %d; want %d", m, int(got), int(want))
	}
}

// wantTurned holds Check of what became of an image that is turned in each of these ways.
func wantTurned(t *testing.T, m api.Image, want api.Errno, turns ...turn) {
	t.Helper()
	for _, do := range turns {
		wantChecked(t, turned(clone(m), do), want)
	}
}

// TestExamples: the rows of the chapter's examples about Check.
func TestExamples(t *testing.T) {
	wantChecked(t, first(), api.OK)
	wantChecked(t, api.Image{}, api.OK)
	wantTurned(t, first(), api.ErrOrder,
		func(m *api.Image) { m.Vector = vec(1, 3) }, func(m *api.Image) { m.Base = vec(1, 3) }, func(m *api.Image) { m.Base = vec(1, 1) }, func(m *api.Image) { m.Clock = 1 })
	wantTurned(t, first(), api.OK, func(m *api.Image) { m.Base, m.Log = vec(1, 1), m.Log[1:] })
	wantTurned(t, first(), api.ErrNone, func(m *api.Image) { m.Nodes[0], m.Nodes[1] = m.Nodes[1], m.Nodes[0] })
	wantTurned(t, first(), api.ErrForm, func(m *api.Image) { m.Clock = -1 }, func(m *api.Image) { m.Nodes[0].State = 4 }, func(m *api.Image) { m.Epoch = 2 })
	wantTurned(t, first(), api.ErrArg, func(m *api.Image) { m.Joined = []int{1, 1} }, func(m *api.Image) { m.Left = []int{17} })
}

// TestVectors: P9.1: Vectors and Bases that are none, Bases that the Vector does not cover, and such as it just covers.
func TestVectors(t *testing.T) {
	both := func(vector, base api.Vector) turn {
		return func(m *api.Image) { m.Vector, m.Base, m.Log = vector, base, nil }
	}
	full := func(seq int) (v api.Vector) {
		for n := 1; n <= api.MaxSites; n++ {
			v = append(v, dot(n, seq))
		}
		return v
	}
	for _, m := range []api.Image{first(), rich(), {}} {
		for _, v := range []api.Vector{nil, {}, vec(1, 1), vec(16, api.MaxSeq), vec(3, 2, 5, 1), full(1), full(api.MaxSeq)} {
			wantTurned(t, m, api.OK, both(v, slices.Clone(v)))
		}
		for _, x := range []struct {
			v    api.Vector
			want api.Errno
		}{
			{vec(0, 1), api.ErrArg}, {vec(17, 1), api.ErrArg}, {vec(-1, 1), api.ErrArg}, {vec(math.MinInt, 1), api.ErrArg}, {vec(math.MaxInt, 1), api.ErrArg}, {vec(1, 1, 17, 0), api.ErrArg},
			{vec(1, 0), api.ErrForm}, {vec(1, -1), api.ErrForm}, {vec(1, api.MaxSeq+1), api.ErrForm}, {vec(1, math.MaxInt), api.ErrForm}, {vec(2, 1, 1, 0), api.ErrForm},
			{vec(2, 1, 1, 1), api.ErrOrder}, {vec(1, 1, 1, 1), api.ErrOrder}, {vec(1, 1, 1, 2), api.ErrOrder}, {append(full(1), dot(16, 1)), api.ErrOrder}, {append(full(1), dot(17, 1)), api.ErrArg},
		} {
			wantTurned(t, m, x.want, both(x.v, nil), both(x.v, x.v), both(full(api.MaxSeq), x.v), both(x.v, vec(0, 0)), both(x.v, vec(1, 0)), both(x.v, vec(2, 1, 1, 1)))
		}
		// Which one is asked first; and both ahead of whether one covers the other.
		wantTurned(t, m, api.ErrArg, both(vec(17, 1), vec(1, 0)), both(vec(1, 1), vec(17, 1)), both(nil, vec(2, 9, 0, 1)))
		wantTurned(t, m, api.ErrForm, both(vec(1, 0), vec(17, 1)), both(vec(1, 1), vec(1, 0)), both(nil, vec(2, 9, 3, 0)))
		wantTurned(t, m, api.ErrOrder, both(vec(2, 1, 1, 1), vec(17, 1)), both(vec(1, 1, 1, 2), vec(1, 0)))
		wantTurned(t, m, api.ErrOrder,
			both(nil, vec(1, 1)), both(vec(1, 4), vec(1, 5)), both(vec(1, 4), vec(2, 1)), both(vec(1, 4, 3, 1), vec(1, 4, 2, 1)), both(vec(1, 4, 2, 9), vec(1, 4, 2, 10)), both(full(api.MaxSeq-1), full(api.MaxSeq)),
			both(full(1)[:15], full(1)))
	}
	// A Vector that covers the Base, with no operation between: the Log does not reach it.
	wantTurned(t, api.Image{}, api.ErrOrder, both(vec(1, 1), nil), both(vec(1, 2), vec(1, 1)), both(vec(1, 1, 2, 1), vec(1, 1)), both(vec(1, 1, 2, 1), vec(2, 1)), both(full(api.MaxSeq), full(1)))
	// Ahead of all else.
	rest := func(m *api.Image) {
		m.Log, m.Nodes, m.Joined, m.Epoch = []api.Op{{}}, []api.Node{{}}, []int{0}, -1
	}
	wantTurned(t, rich(), api.ErrOrder, func(m *api.Image) {
		rest(m)
		m.Base, m.Clock = vec(1, 6), -1
	})
	wantTurned(t, rich(), api.ErrForm, func(m *api.Image) {
		rest(m)
		m.Clock = -1
	})
}

// TestClocks: P9.1: the limits of Clock by itself, and beside the latest time of operations and of nodes.
func TestClocks(t *testing.T) {
	clock := func(n int) turn { return func(m *api.Image) { m.Clock = n } }
	wantTurned(t, api.Image{}, api.OK, clock(0), clock(1), clock(api.MaxTime-1), clock(api.MaxTime))
	for _, m := range []api.Image{{}, first(), rich()} {
		wantTurned(t, m, api.ErrForm, clock(-1), clock(math.MinInt), clock(api.MaxTime+1), clock(math.MaxInt), clock(1<<32), clock(1<<32+20))
	}
	wantTurned(t, first(), api.ErrOrder, clock(0), clock(1))
	wantTurned(t, first(), api.OK, clock(2), clock(3), clock(api.MaxTime))
	wantTurned(t, rich(), api.ErrOrder, clock(0), clock(10))
	wantTurned(t, rich(), api.OK, clock(11), clock(12), clock(api.MaxTime))
	// Operations alone, and nodes alone.
	alone := turned(rich(), func(m *api.Image) { m.Nodes = nil })
	wantTurned(t, alone, api.ErrOrder, clock(0), clock(9), clock(10))
	wantTurned(t, alone, api.OK, clock(11))
	alone = turned(rich(), func(m *api.Image) { m.Base, m.Log = m.Vector, nil })
	wantTurned(t, alone, api.ErrOrder, clock(0), clock(9), clock(10))
	wantTurned(t, alone, api.OK, clock(11))
	latest := turned(first(), func(m *api.Image) { m.Nodes = []api.Node{node(id(api.MaxTime, 16), beginning, 'z', 1)} })
	wantTurned(t, latest, api.OK, clock(api.MaxTime))
	wantTurned(t, latest, api.ErrOrder, clock(api.MaxTime-1), clock(2))
}

// TestLogs: P9.1: operations that are none, come twice, do not follow, depend on what is not there, are later than the Clock; Logs that do not reach the Vector, or go beyond it.
func TestLogs(t *testing.T) {
	log := func(ops ...api.Op) turn { return func(m *api.Image) { m.Log = ops } }
	none := api.Op{Kind: api.OpJoin, Dot: dot(1, 1)}
	wantTurned(t, first(), api.ErrOp, log(none), log(join(), none), log(none, join()), log(api.Op{}), log(join(), hello(), none), log(join(), api.Op{}, hello()))
	wantTurned(t, first(), api.ErrOrder, log(), log(join()), log(hello()), log(hello(), join()), log(join(), join()), log(join(), join(), hello()), log(join(), hello(), hello()), log(join(), hello(), join()))
	// The first one that offends, whatever comes behind it.
	wantTurned(t, first(), api.ErrOrder, log(hello(), none), log(join(), join(), none))
	late := hello()
	late.ID.Time = 2
	wantTurned(t, first(), api.ErrOrder, log(join(), late), log(join(), late, none))
	late.Text = "\xff"
	wantTurned(t, first(), api.ErrOp, log(join(), late))
	late.Text, late.Dot, late.Deps = "abc", dot(1, 9), vec(1, 7)
	wantTurned(t, first(), api.ErrOp, log(join(), late), log(late))

	// Of the rich one: what each needs is there, or not, and the same where the Base has it.
	m := rich()
	wantChecked(t, m, api.OK)
	next := api.Op{Kind: api.OpLeave, Dot: dot(5, 1)}
	behind := func(deps api.Vector, vector api.Vector) turn {
		return func(m *api.Image) {
			next := next
			next.Deps = deps
			m.Log, m.Vector = append(m.Log, next), vector
		}
	}
	to := vec(1, 5, 2, 3, 3, 1, 5, 1, 16, 8)
	wantTurned(t, m, api.OK, behind(nil, to), behind(vec(1, 5, 2, 3, 3, 1, 16, 8), to), behind(vec(1, 4), to), behind(vec(3, 1), to))
	wantTurned(t, m, api.ErrOrder,
		behind(vec(1, 6), to), behind(vec(4, 1), to), behind(vec(1, 5, 2, 4), to), behind(vec(3, 2), to), behind(vec(1, 5, 6, 1), to), behind(vec(16, 9), to),
		behind(nil, m.Vector), behind(nil, vec(1, 5, 2, 3, 3, 1, 5, 2, 16, 8)), behind(nil, vec(1, 5, 2, 3, 3, 1, 5, 1, 6, 1, 16, 8)), behind(nil, vec(1, 6, 2, 3, 3, 1, 5, 1, 16, 8)))
	// Below the base, and above what comes next.
	seq := func(n int) turn {
		return func(m *api.Image) {
			m.Log = append(m.Log, api.Op{Kind: api.OpLeave, Dot: dot(2, n), Deps: vec(2, n-1)})
			m.Vector[1] = dot(2, max(n, 3))
		}
	}
	wantTurned(t, m, api.OK, seq(4))
	wantTurned(t, m, api.ErrOrder, seq(2), seq(3), seq(5), seq(6), seq(api.MaxSeq))
	// The last that there may be of a site.
	end := api.Image{Base: vec(7, api.MaxSeq-1), Vector: vec(7, api.MaxSeq), Log: []api.Op{{Kind: api.OpLeave, Dot: dot(7, api.MaxSeq), Deps: vec(7, api.MaxSeq-1)}}}
	wantChecked(t, end, api.OK)
	wantTurned(t, end, api.ErrOp, func(m *api.Image) {
		m.Log = append(m.Log, api.Op{Kind: api.OpLeave, Dot: dot(7, api.MaxSeq+1), Deps: vec(7, api.MaxSeq)})
	})
	// A delete that is late, in a run that is not the last one.
	gone := api.Image{Vector: vec(1, 1), Clock: 7, Log: []api.Op{{Kind: api.OpDelete, Dot: dot(1, 1), Gone: []api.Run{run(1, 1, 7), run(2, 2, 1)}}}}
	wantChecked(t, gone, api.OK)
	wantTurned(t, gone, api.ErrOrder, func(m *api.Image) { m.Clock = 6 }, func(m *api.Image) { m.Log[0].Gone[0].Count = 8 })
}

// TestFewLogs: P9.1: all short Logs of few operations, between few Bases and Vectors.
func TestFewLogs(t *testing.T) {
	ops := []api.Op{
		join(), hello(), {Kind: api.OpLeave, Dot: dot(2, 1)}, {Kind: api.OpLeave, Dot: dot(2, 1), Deps: vec(1, 1)}, {Kind: api.OpJoin, Dot: dot(2, 2), Deps: vec(1, 2, 2, 1), Site: 3},
		{Kind: api.OpDelete, Dot: dot(1, 2), Deps: vec(1, 1, 2, 1), Gone: []api.Run{run(3, 1, 1)}}, {Kind: api.OpLeave, Dot: dot(2, 1), Deps: vec(2, 1)},
	}
	vectors := []api.Vector{nil, vec(1, 1), vec(1, 2), vec(2, 1), vec(1, 1, 2, 1), vec(1, 2, 2, 1), vec(1, 2, 2, 2)}
	logs := [][]api.Op{nil}
	taken := 0
	for at := 0; at < len(logs); at++ {
		for _, base := range vectors {
			for _, to := range vectors {
				for clock := 1; clock < 4; clock++ {
					m := api.Image{Vector: to, Base: base, Clock: clock, Log: logs[at]}
					wantAsked(t, m)
					if image.Check(m) == api.OK {
						taken++
						wantBehind(t, m)
					}
				}
			}
		}
		if len(logs[at]) == 4 || t.Failed() {
			continue
		}
		for _, o := range ops {
			logs = append(logs, append(slices.Clone(logs[at]), o))
		}
	}
	if taken < 50 {
		t.Errorf("%d taken alone", taken)
	}
}

// wantBehind: P9.5: each operation comes behind all that it depends on: each that the base does not have stands in the Log, ahead of it.
func wantBehind(t *testing.T, m api.Image) {
	t.Helper()
	based := map[int]int{}
	for _, d := range m.Base {
		based[d.Site] = d.Seq
	}
	ahead := map[api.Dot]bool{}
	for _, o := range m.Log {
		for _, d := range o.Deps {
			for seq := based[d.Site] + 1; seq <= d.Seq; seq++ {
				if !ahead[dot(d.Site, seq)] {
					t.Errorf("%+v: %v is not ahead of %v", m, dot(d.Site, seq), o.Dot)
				}
			}
		}
		if ahead[o.Dot] || o.Dot.Seq <= based[o.Dot.Site] {
			t.Errorf("%+v: %v comes twice", m, o.Dot)
		}
		ahead[o.Dot] = true
	}
	for _, d := range m.Vector {
		for seq := based[d.Site] + 1; seq <= d.Seq; seq++ {
			if !ahead[dot(d.Site, seq)] {
				t.Errorf("%+v: %v is missing", m, dot(d.Site, seq))
			}
		}
	}
}

// TestNodes: P9.1: each thing of a node about its limits, and the order of what offends: in one node, in the first one, then of them all.
func TestNodes(t *testing.T) {
	m := api.Image{Clock: api.MaxTime}
	nodes := func(l ...api.Node) turn { return func(m *api.Image) { m.Nodes = l } }
	a, b := node(id(5, 3), beginning, 'a', 1), node(id(6, 1), id(5, 3), 'b', 2)
	with := func(change func(n *api.Node)) turn {
		one := b
		change(&one)
		return nodes(a, one)
	}
	wantTurned(t, m, api.OK, nodes(), nodes(a), nodes(a, b))
	for _, x := range []api.ID{{}, id(0, 1), id(-1, 1), id(math.MinInt, 1), id(api.MaxTime+1, 1), id(math.MaxInt, 1), id(1<<32+6, 1), id(6, 0), id(6, -1), id(6, 17), id(6, math.MaxInt), id(6, math.MinInt), id(6, 1<<32+1)} {
		wantTurned(t, m, api.ErrArg, with(func(n *api.Node) { n.ID = x }))
		if x != beginning {
			wantTurned(t, m, api.ErrArg, with(func(n *api.Node) { n.Ref = x }), with(func(n *api.Node) { n.Ref, n.State = x, 0 }))
		}
	}
	for _, x := range []api.ID{id(5, 4), id(5, 16), id(6, 1), id(6, 16), id(api.MaxTime, 1), id(api.MaxTime, 16)} {
		wantTurned(t, m, api.OK, with(func(n *api.Node) { n.ID = x }))
	}
	for _, r := range []rune{0, 1, 'a', 0x7f, 0x80, 0xd7ff, 0xe000, 0xfffd, 0xfffe, 0xffff, 0x10000, 0x10ffff} {
		wantTurned(t, m, api.OK, with(func(n *api.Node) { n.Rune = r }))
	}
	for _, r := range []rune{-1, math.MinInt32, 0xd800, 0xdbff, 0xdc00, 0xdfff, 0x110000, math.MaxInt32} {
		wantTurned(t, m, api.ErrForm, with(func(n *api.Node) { n.Rune = r }), with(func(n *api.Node) { n.Rune, n.Ref = r, id(7, 1) }))
		wantTurned(t, m, api.ErrArg, with(func(n *api.Node) { n.Rune, n.ID.Site = r, 0 }))
	}
	for _, s := range []int{1, 2, 3} {
		wantTurned(t, m, api.OK, with(func(n *api.Node) { n.State = s }))
	}
	for _, s := range []int{0, -1, 4, 5, math.MinInt, math.MaxInt, 1<<32 + 1, 257} {
		wantTurned(t, m, api.ErrForm, with(func(n *api.Node) { n.State = s }), with(func(n *api.Node) { n.State, n.ID = s, a.ID }))
	}
	// Refs that are not lower: the node itself, a later one, one of the same time; whether they are there or not.
	for _, x := range []api.ID{id(6, 1), id(6, 2), id(7, 1), id(api.MaxTime, 16)} {
		wantTurned(t, m, api.ErrOrder, with(func(n *api.Node) { n.Ref = x }))
	}
	wantTurned(t, m, api.ErrOrder, nodes(a, node(a.ID, a.ID, 'a', 1)), nodes(a, node(id(5, 2), a.ID, 'a', 1)), nodes(a, node(id(4, 4), a.ID, 'a', 1)))
	wantTurned(t, m, api.ErrExists, nodes(a, a), nodes(a, b, a), nodes(a, b, b), nodes(a, node(a.ID, id(5, 2), 'a', 1)), nodes(a, node(a.ID, id(1, 1), 'q', 3)))
	wantTurned(t, m, api.ErrNone, nodes(b), nodes(b, a), with(func(n *api.Node) { n.Ref = id(5, 2) }), with(func(n *api.Node) { n.Ref = id(4, 3) }), with(func(n *api.Node) { n.Ref = id(1, 1) }))
	// The first node that offends, and those all ahead of the order; the order ahead of nothing but the roll.
	wantTurned(t, m, api.ErrNone, nodes(b, api.Node{}), nodes(b, node(id(7, 1), beginning, -1, 1)))
	wantTurned(t, m, api.ErrForm, nodes(node(id(7, 1), beginning, -1, 1), api.Node{}), nodes(node(id(7, 1), beginning, -1, 1), b))
	c := node(id(7, 1), beginning, 'c', 1)
	wantTurned(t, m, api.OK, nodes(c, a, b))
	wantTurned(t, m, api.ErrOrder, nodes(a, c, b), nodes(a, b, c), nodes(a, c))
	wantTurned(t, m, api.ErrArg, nodes(a, c, b, api.Node{}))
	wantTurned(t, m, api.ErrExists, nodes(a, c, b, b))
	m.Clock = 5
	wantTurned(t, m, api.OK, nodes(a))
	wantTurned(t, m, api.ErrOrder, nodes(a, b), nodes(c, a), nodes(c))
	wantTurned(t, m, api.ErrForm, nodes(c, a, node(id(6, 1), id(5, 3), 'b', 0)))
	m.Epoch = -1
	wantTurned(t, m, api.ErrOrder, nodes(a, b), nodes(a, c))
	wantTurned(t, m, api.ErrArg, nodes(a))
}

// permuted goes through all orders of a list.
func permuted[T any](l []T, do func([]T)) {
	var from func(int)
	from = func(i int) {
		if i == len(l) {
			do(l)
			return
		}
		for k := i; k < len(l); k++ {
			l[i], l[k] = l[k], l[i]
			from(i + 1)
			l[i], l[k] = l[k], l[i]
		}
	}
	from(0)
}

// TestOrders: P9.1: all documents of few nodes, in all orders of theirs: one of them alone is taken.
func TestOrders(t *testing.T) {
	ids := []api.ID{id(1, 2), id(2, 1), id(2, 3), id(3, 1), id(3, 2)}
	var grow func(nodes []api.Node)
	grow = func(nodes []api.Node) {
		taken := 0
		permuted(slices.Clone(nodes), func(l []api.Node) {
			m := api.Image{Clock: 3, Nodes: l}
			wantAsked(t, m)
			if image.Check(m) == api.OK {
				taken++
			}
		})
		if taken != 1 {
			t.Errorf("%v: %d orders are taken", nodes, taken)
		}
		if len(nodes) == len(ids) || t.Failed() {
			return
		}
		for i := -1; i < len(nodes); i++ {
			ref := beginning
			if i >= 0 {
				ref = nodes[i].ID
			}
			grow(append(slices.Clone(nodes), node(ids[len(nodes)], ref, 'a', 1)))
		}
	}
	grow(nil)
}

// TestFewNodes: P9.1: all short lists of few nodes, whatever they stand behind.
func TestFewNodes(t *testing.T) {
	var few []api.Node
	for _, of := range []api.ID{id(1, 1), id(1, 2), id(2, 1)} {
		for _, ref := range []api.ID{beginning, id(1, 1), id(1, 2), id(2, 1)} {
			few = append(few, node(of, ref, 'a', 1))
		}
	}
	few = append(few, node(id(3, 1), id(0, 1), 'a', 1), node(id(3, 1), beginning, 'a', 4), node(id(3, 1), id(2, 1), 'a', 3))
	lists := [][]api.Node{nil}
	for at := 0; at < len(lists); at++ {
		wantAsked(t, api.Image{Clock: 2, Nodes: lists[at]})
		wantAsked(t, api.Image{Clock: 3, Nodes: lists[at]})
		if len(lists[at]) == 4 || t.Failed() {
			continue
		}
		for _, n := range few {
			lists = append(lists, append(slices.Clone(lists[at]), n))
		}
	}
}

// TestRolls: P9.1: all short lists of numbers about those of sites, with Epochs from below to above.
func TestRolls(t *testing.T) {
	lists := [][]int{nil}
	for at := 0; at < len(lists); at++ {
		if len(lists[at]) == 3 {
			continue
		}
		for _, n := range []int{-1, 0, 1, 2, 16, 17} {
			lists = append(lists, append(slices.Clone(lists[at]), n))
		}
	}
	for _, joined := range lists {
		for _, left := range lists {
			for epoch := -1; epoch < 8; epoch++ {
				if got, want := image.Check(api.Image{Joined: joined, Left: left, Epoch: epoch}), wantRoll(joined, left, epoch); got != want {
					t.Fatalf("%v, %v, %d: %d; want %d", joined, left, epoch, int(got), int(want))
				}
			}
		}
	}
}

// TestRollEdges: P9.1: lists of all sites, and of more; Epochs as great as can be; what is asked first.
func TestRollEdges(t *testing.T) {
	var all []int
	for n := 1; n <= api.MaxSites; n++ {
		all = append(all, n)
	}
	roll := func(joined, left []int, epoch int) turn {
		return func(m *api.Image) { m.Joined, m.Left, m.Epoch = joined, left, epoch }
	}
	for _, m := range []api.Image{{}, rich()} {
		wantTurned(t, m, api.OK, roll(all, nil, 16), roll(nil, all, 0), roll(all, all, 0), roll(all, all, 2), roll(all, all, 32), roll(all, all[:15], 1), roll(all, all[:15], 31), roll(all[:8], all[4:], 4), roll(all[:8], all[4:], 12))
		wantTurned(t, m, api.ErrForm,
			roll(all, nil, 15), roll(all, nil, 17), roll(all, nil, 18), roll(all, nil, 0), roll(nil, all, 1), roll(nil, all, 2), roll(all, all, 1), roll(all, all, 31), roll(all, all, 33), roll(all, all, 34),
			roll(all, all[:15], 0), roll(all, all[:15], 2), roll(all, all[:15], 33), roll(all[:8], all[4:], 2), roll(all[:8], all[4:], 3), roll(all[:8], all[4:], 5), roll(all[:8], all[4:], 14),
			roll(nil, nil, 1), roll(nil, nil, 2), roll(nil, nil, math.MaxInt), roll(nil, nil, math.MaxInt-1), roll(all, all, math.MaxInt), roll(all, all, math.MaxInt-1))
		wantTurned(t, m, api.ErrArg,
			roll(append(slices.Clone(all), 17), nil, 17), roll(append(slices.Clone(all), 16), nil, 16), roll(nil, append(slices.Clone(all), 17), 0), roll(nil, append([]int{0}, all...), 0), roll(make([]int, 100000), nil, 0),
			roll(nil, nil, -1), roll(nil, nil, math.MinInt), roll([]int{math.MinInt}, nil, 1), roll(nil, []int{math.MaxInt}, 0), roll([]int{1}, []int{1<<32 + 1}, 1),
			roll([]int{2, 1}, nil, 2), roll(nil, []int{2, 1}, 0), roll([]int{1, 1}, nil, 2), roll(nil, []int{5, 5}, 0), roll([]int{1, 3, 2}, nil, 3), roll([]int{0}, nil, 99), roll(nil, []int{0}, 99))
	}
}

// fault is something that Check has against an image: which one it comes to first, and what it says.
type fault struct {
	rank, field int
	do          turn
	want        api.Errno
}

// faults turns each part of the first image by itself.
func faults() []fault {
	const inVector, inBase, inClock, inLog, inNodes, inJoined, inLeft, inEpoch = 0, 1, 2, 3, 4, 5, 6, 7
	var l []fault
	add := func(rank, field int, want api.Errno, do turn) { l = append(l, fault{rank, field, do, want}) }
	for want, v := range map[api.Errno]api.Vector{api.ErrArg: vec(1, 2, 17, 1), api.ErrForm: vec(1, 2, 3, 0), api.ErrOrder: vec(1, 2, 1, 2)} {
		add(1, inVector, want, func(m *api.Image) { m.Vector = v })
		add(2, inBase, want, func(m *api.Image) { m.Base = v })
	}
	add(3, inBase, api.ErrOrder, func(m *api.Image) { m.Base = vec(1, 2, 5, 1) })
	add(4, inClock, api.ErrForm, func(m *api.Image) { m.Clock = -1 })
	add(4, inClock, api.ErrForm, func(m *api.Image) { m.Clock = api.MaxTime + 1 })
	add(5, inLog, api.ErrOp, func(m *api.Image) { m.Log = []api.Op{{}} })
	add(5, inLog, api.ErrOrder, func(m *api.Image) { m.Log = []api.Op{hello(), join()} })
	add(5, inLog, api.ErrOrder, func(m *api.Image) { m.Log[1].ID.Time = 2 })
	add(6, inLog, api.ErrOrder, func(m *api.Image) { m.Log = m.Log[:1] })
	for want, n := range map[api.Errno]api.Node{
		api.ErrArg: node(id(2, 17), beginning, 'a', 1), api.ErrForm: node(id(2, 2), beginning, 'a', 0), api.ErrOrder: node(id(2, 2), id(2, 2), 'a', 1),
		api.ErrExists: node(id(2, 1), beginning, 'a', 1), api.ErrNone: node(id(2, 2), id(1, 9), 'a', 1),
	} {
		add(7, inNodes, want, func(m *api.Image) { m.Nodes = append(m.Nodes, n) })
	}
	add(8, inNodes, api.ErrOrder, func(m *api.Image) { m.Nodes = append(m.Nodes, node(id(2, 2), beginning, 'a', 1)) })
	add(9, inNodes, api.ErrOrder, func(m *api.Image) { m.Nodes[1].ID.Time = 3 })
	add(10, inJoined, api.ErrArg, func(m *api.Image) { m.Joined = []int{1, 17} })
	add(10, inLeft, api.ErrArg, func(m *api.Image) { m.Left = []int{3, 2} })
	add(10, inEpoch, api.ErrArg, func(m *api.Image) { m.Epoch = -1 })
	add(11, inEpoch, api.ErrForm, func(m *api.Image) { m.Epoch = 2 })
	return l
}

// TestFirstError: P9.1, W4: of two things that offend at once, the one that is named first.
func TestFirstError(t *testing.T) {
	all := faults()
	for _, a := range all {
		wantTurned(t, first(), a.want, a.do)
		for _, b := range all {
			if a.rank < b.rank && a.field != b.field {
				wantChecked(t, turned(first(), a.do, b.do), a.want)
				wantChecked(t, turned(first(), b.do, a.do), a.want)
			}
		}
	}
}

// TestNumbers: P9.1, W1: each number turned by itself about each limit, and each two of them; each list in another order, with something left out or twice.
func TestNumbers(t *testing.T) {
	for _, m := range []api.Image{first(), rich()} {
		count := len(numbersOf(&m))
		for i := range count {
			for _, n := range edges {
				one := clone(m)
				numbersOf(&one)[i](n)
				wantAsked(t, one)
			}
			for k := range i {
				for _, a := range few {
					for _, b := range few {
						two := clone(m)
						l := numbersOf(&two)
						l[i](a)
						l[k](b)
						wantAsked(t, two)
					}
				}
				if t.Failed() {
					return
				}
			}
		}
		all := allShuffles(m)
		for _, a := range all {
			wantAsked(t, turned(clone(m), a))
			for i := range count {
				one := clone(m)
				numbersOf(&one)[i](few[i%len(few)])
				wantAsked(t, turned(one, a))
			}
		}
	}
}

// right is an image that Check takes, of any numbers.
func right(r *rand.Rand) api.Image {
	small := func(n int) int { return 1 + r.Intn(1+r.Intn(n)) }
	var m api.Image
	has := map[int]int{}
	list := func() api.Vector {
		var v api.Vector
		for n := 1; n <= api.MaxSites; n++ {
			if has[n] > 0 {
				v = append(v, dot(n, has[n]))
			}
		}
		return v
	}
	for n := 1; n <= api.MaxSites; n++ {
		if r.Intn(4) == 0 {
			has[n] = small(api.MaxSeq - 99)
		}
	}
	m.Base = list()
	for range r.Intn(6) {
		site := small(api.MaxSites)
		deps := slices.DeleteFunc(list(), func(d api.Dot) bool { return d.Site != site && r.Intn(3) == 0 })
		has[site]++
		m.Log = append(m.Log, someOp(r, dot(site, has[site]), deps))
	}
	m.Vector = list()
	m.Nodes = someNodes(r, r.Intn(12))
	m.Clock = 200
	if r.Intn(3) == 0 {
		m.Clock = api.MaxTime
	}
	both := 0
	for n := 1; n <= api.MaxSites; n++ {
		joined, left := r.Intn(2) == 0, r.Intn(3) == 0
		switch {
		case joined && left:
			both++
		case joined:
			m.Epoch++
		}
		if joined {
			m.Joined = append(m.Joined, n)
		}
		if left {
			m.Left = append(m.Left, n)
		}
	}
	m.Epoch += 2 * r.Intn(both+1)
	return m
}

// someOp is an operation of any kind, no later than 200.
func someOp(r *rand.Rand, d api.Dot, deps api.Vector) api.Op {
	o := api.Op{Kind: 1 + r.Intn(4), Dot: d, Deps: deps}
	switch o.Kind {
	case api.OpInsert:
		o.ID, o.Text = id(2+r.Intn(190), d.Site), []string{"a", "é€", "𝄞\x00z", "\uFFFD"}[r.Intn(4)]
		if r.Intn(2) == 0 {
			o.Ref = id(1+r.Intn(o.ID.Time-1), 1+r.Intn(api.MaxSites))
		}
	case api.OpDelete:
		for i := range 1 + r.Intn(3) {
			o.Gone = append(o.Gone, run(10*i+1+r.Intn(5), 1+r.Intn(api.MaxSites), 1+r.Intn(4)))
		}
	case api.OpJoin:
		o.Site = 1 + r.Intn(api.MaxSites)
	}
	return o
}

// someNodes is a document, in its order, no later than 200.
func someNodes(r *rand.Rand, count int) []api.Node {
	var l []api.Node
	time := 0
	for range count {
		time += 1 + r.Intn(16)
		n := node(id(time, 1+r.Intn(api.MaxSites)), beginning, []rune{'a', 'é', 0, 0xd7ff, 0xe000, 0x10ffff, api.Bad}[r.Intn(7)], 1+r.Intn(3))
		if len(l) > 0 && r.Intn(4) > 0 {
			n.Ref = l[r.Intn(len(l))].ID
		}
		l = append(l, n)
	}
	return ordered(l)
}

// TestMany: P9.1, P9.5: images of all that there may be; the same with some things turned.
func TestMany(t *testing.T) {
	r := rand.New(rand.NewSource(9))
	for range 5000 {
		m := right(r)
		wantChecked(t, m, api.OK)
		if len(m.Log) > 0 {
			wantAhead(t, m)
		}
		for range 3 {
			one := clone(m)
			l := numbersOf(&one)
			for range 1 + r.Intn(2) {
				l[r.Intn(len(l))](edges[r.Intn(len(edges))])
			}
			wantAsked(t, one)
		}
		if all := allShuffles(m); len(all) > 0 {
			wantAsked(t, turned(clone(m), all[r.Intn(len(all))]))
		}
		if t.Failed() {
			return
		}
	}
}

// wantAhead is wantBehind for a base that is far up: all counts are taken from it.
func wantAhead(t *testing.T, m api.Image) {
	t.Helper()
	has := map[int]int{}
	for _, d := range m.Base {
		has[d.Site] = d.Seq
	}
	for _, o := range m.Log {
		for _, d := range o.Deps {
			if d.Seq > has[d.Site] {
				t.Errorf("%+v: %v is not ahead of %v", m, d, o.Dot)
			}
		}
		has[o.Dot.Site]++
		if has[o.Dot.Site] != o.Dot.Seq {
			t.Errorf("%+v: %v does not follow", m, o.Dot)
		}
	}
}

// TestLong: P9.1, W1: long chains, long rows behind one element, chains that are cut again and again, long Logs; and each with its last thing turned.
func TestLong(t *testing.T) {
	const n = 60000
	chain := make([]api.Node, n)
	broad := make([]api.Node, n)
	teeth := make([]api.Node, n)
	for i := range n {
		chain[i] = node(id(i+1, 1), beginning, 'a', 1)
		if i > 0 {
			chain[i].Ref = id(i, 1)
		}
		broad[i] = node(id(n-i, 1), beginning, 'a', 1)
		// Each three: one at the beginning, with two behind one another behind it.
		top := 3 * ((n - i + 2) / 3)
		teeth[i] = node(id(top, 1), beginning, 'a', 1)
		if i%3 > 0 {
			teeth[i] = node(id(n+top, i%3), id(top, 1), 'a', 1)
		}
		if i%3 == 2 {
			teeth[i].Ref = id(n+top, 1)
		}
	}
	nodes := func(l []api.Node) api.Image { return api.Image{Clock: 2 * n, Nodes: l} }
	for i, l := range [][]api.Node{chain, broad, teeth} {
		if err := image.Check(nodes(l)); err != api.OK {
			t.Errorf("list %d: %d", i, int(err))
		}
		turned := slices.Clone(l)
		turned[n-1].ID.Time = 2*n + 1
		if err := image.Check(nodes(turned)); err != api.ErrOrder {
			t.Errorf("list %d, the last one late: %d", i, int(err))
		}
		if err := image.Check(nodes(append(slices.Clone(l), l[0]))); err != api.ErrExists {
			t.Errorf("list %d, the first one twice: %d", i, int(err))
		}
		if err := image.Check(nodes(append(slices.Clone(l), node(id(2*n, 9), beginning, 'a', 1)))); err != api.ErrOrder {
			t.Errorf("list %d, with a high one at the end: %d", i, int(err))
		}
	}
	log := make([]api.Op, n)
	for i := range log {
		log[i] = api.Op{Kind: api.OpLeave, Dot: dot(3, i+1)}
		if i > 0 {
			log[i].Deps = vec(3, i)
		}
	}
	if err := image.Check(api.Image{Vector: vec(3, n), Log: log}); err != api.OK {
		t.Errorf("a long Log: %d", int(err))
	}
	if err := image.Check(api.Image{Vector: vec(3, n+1), Log: log}); err != api.ErrOrder {
		t.Errorf("a long Log that does not reach the Vector: %d", int(err))
	}
}
