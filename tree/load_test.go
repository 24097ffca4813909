package tree_test

import (
	"math"
	"math/rand"
	"slices"
	"testing"

	"hearsay/api"
	"hearsay/image"
	"hearsay/tree"
)

// wantLoaded holds Load of nodes against what it must be, and against what chapter 9 says of an image with these nodes; it says the error.
func wantLoaded(t *testing.T, nodes []api.Node) api.Errno {
	t.Helper()
	was := slices.Clone(nodes)
	d, got := tree.Load(nodes)
	if want := wantLoad(nodes); got != want {
		t.Errorf("Load(%v): %d; want %d", nodes, int(got), int(want))
	}
	if other := image.Check(api.Image{Nodes: nodes, Clock: api.MaxTime}); got != other {
		t.Errorf("Load(%v): %d; an image of them: %d", nodes, int(got), int(other))
	}
	if (d == nil) != (got != api.OK) {
		t.Errorf("Load(%v): %v, %d", nodes, d, int(got))
	}
	if got == api.OK {
		wantDocument(t, both{d, &model{nodes}})
	}
	if !slices.Equal(nodes, was) {
		t.Errorf("nodes %v have become %v", was, nodes)
	}
	return got
}

// TestLoadErrors: P11.8: each thing that a node may offend by, about its limits, and which one comes first: in one node, in the first one, then of them all.
func TestLoadErrors(t *testing.T) {
	a, b := node(id(5, 3), beginning, 'a', 1), node(id(6, 1), id(5, 3), 'b', 2)
	list := func(l ...api.Node) []api.Node { return l }
	shown := func(of, ref api.ID) api.Node { return node(of, ref, 'c', 1) }
	none, late := shown(id(9, 1), id(8, 1)), node(id(7, 1), id(5, 3), 'd', 1)
	for _, x := range []struct {
		nodes []api.Node
		want  api.Errno
	}{
		{list(), api.OK}, {list(a), api.OK}, {list(a, b), api.OK},
		{list(shown(id(0, 1), beginning)), api.ErrArg}, {list(shown(id(1, 0), beginning)), api.ErrArg}, {list(shown(id(api.MaxTime+1, 1), beginning)), api.ErrArg}, {list(shown(id(1, 17), beginning)), api.ErrArg}, {list(shown(beginning, beginning)), api.ErrArg},
		{list(a, shown(id(6, 1), id(0, 1))), api.ErrArg}, {list(a, shown(id(6, 1), id(5, 0))), api.ErrArg}, {list(a, shown(id(6, 1), id(5, 17))), api.ErrArg}, {list(a, shown(id(6, 1), id(-5, 3))), api.ErrArg}, {list(a, shown(id(6, 1), id(math.MaxInt, 3))), api.ErrArg},
		{list(shown(id(api.MaxTime, 16), beginning), shown(id(1, 1), beginning)), api.OK},
		{list(node(id(1, 1), beginning, -1, 1)), api.ErrForm}, {list(node(id(1, 1), beginning, 0xd800, 1)), api.ErrForm}, {list(node(id(1, 1), beginning, 0xdfff, 1)), api.ErrForm}, {list(node(id(1, 1), beginning, 0x110000, 1)), api.ErrForm},
		{list(node(id(1, 1), beginning, math.MinInt32, 1)), api.ErrForm}, {list(node(id(1, 1), beginning, math.MaxInt32, 1)), api.ErrForm}, {list(node(id(1, 1), beginning, 0xd7ff, 1)), api.OK}, {list(node(id(1, 1), beginning, 0xe000, 2)), api.OK},
		{list(node(id(1, 1), beginning, 0x10ffff, 3)), api.OK}, {list(node(id(1, 1), beginning, 0, 3)), api.OK}, {list(node(id(1, 1), beginning, api.Bad, 3)), api.OK},
		{list(node(id(1, 1), beginning, 'a', 0)), api.ErrForm}, {list(node(id(1, 1), beginning, 'a', 4)), api.ErrForm}, {list(node(id(1, 1), beginning, 'a', -1)), api.ErrForm}, {list(node(id(1, 1), beginning, 'a', 1<<32+1)), api.ErrForm},
		{list(a, shown(id(5, 3), id(5, 3))), api.ErrOrder}, {list(a, shown(id(5, 2), id(5, 3))), api.ErrOrder}, {list(a, shown(id(4, 16), id(5, 3))), api.ErrOrder}, {list(a, shown(id(5, 4), id(5, 3))), api.OK}, {list(a, shown(id(5, 1), id(9, 9))), api.ErrOrder},
		{list(a, a), api.ErrExists}, {list(a, b, a), api.ErrExists}, {list(a, b, b), api.ErrExists}, {list(a, shown(id(5, 3), id(1, 1))), api.ErrExists}, {list(a, b, shown(id(6, 1), beginning)), api.ErrExists},
		{list(b), api.ErrNone}, {list(b, a), api.ErrNone}, {list(a, none), api.ErrNone}, {list(a, none, shown(id(8, 1), beginning)), api.ErrNone}, {list(shown(id(6, 1), id(5, 2)), a), api.ErrNone},
		// The order of all of them, behind all else.
		{list(a, b, late), api.ErrOrder}, {list(a, late, b), api.OK}, {list(a, b, shown(id(7, 1), beginning)), api.ErrOrder}, {list(shown(id(7, 1), beginning), a, b), api.OK}, {list(a, b, late, none), api.ErrNone}, {list(a, b, late, a), api.ErrExists},
		{list(a, b, late, api.Node{}), api.ErrArg}, {list(a, b, late, node(id(9, 9), beginning, 'a', 4)), api.ErrForm}, {list(a, shown(id(1, 1), beginning), b), api.ErrOrder}, {list(a, b, shown(id(1, 1), beginning)), api.OK},
		// Two things in one node, and the first node that offends.
		{list(node(id(0, 1), beginning, -1, 9)), api.ErrArg}, {list(a, node(id(5, 3), id(6, 1), -1, 1)), api.ErrForm}, {list(a, node(id(5, 3), id(6, 1), 'a', 1)), api.ErrOrder}, {list(a, node(id(5, 3), id(4, 1), 'a', 1)), api.ErrExists},
		{list(none, api.Node{}), api.ErrNone}, {list(api.Node{}, none), api.ErrArg}, {list(a, a, none), api.ErrExists}, {list(a, none, a), api.ErrNone}, {list(node(id(1, 1), beginning, 'a', 4), api.Node{}), api.ErrForm},
	} {
		if got := wantLoaded(t, x.nodes); got != x.want {
			t.Errorf("Load(%v): %d; want %d", x.nodes, int(got), int(x.want))
		}
	}
}

// numbersOf is how each number of nodes is turned.
func numbersOf(nodes []api.Node) []func(n int) {
	var l []func(n int)
	for i := range nodes {
		n := &nodes[i]
		for _, at := range []*int{&n.ID.Time, &n.ID.Site, &n.Ref.Time, &n.Ref.Site, &n.State} {
			l = append(l, func(to int) { *at = to })
		}
		l = append(l, func(to int) { n.Rune = rune(to) })
	}
	return l
}

// TestLoadTurned: P11.8: each number of the rich document turned, one and two at a time.
func TestLoadTurned(t *testing.T) {
	more := append(slices.Clone(edges), 6, 7, 8, 0xd7ff, 0xd800, 0xdfff, 0xe000, 0x10ffff, 0x110000)
	few := []int{-1, 0, 2, 4, 9, 17}
	seen := map[api.Errno]int{}
	for i := range numbersOf(rich()) {
		for _, n := range more {
			nodes := rich()
			numbersOf(nodes)[i](n)
			seen[wantLoaded(t, nodes)]++
		}
		for k := range i {
			for _, n := range few {
				nodes := rich()
				numbersOf(nodes)[i](n)
				numbersOf(nodes)[k](few[(n+i+k+1)%len(few)])
				seen[wantLoaded(t, nodes)]++
			}
		}
		if t.Failed() {
			return
		}
	}
	for _, e := range []api.Errno{api.OK, api.ErrArg, api.ErrForm, api.ErrOrder, api.ErrExists, api.ErrNone} {
		if seen[e] < 20 {
			t.Errorf("the error %d came %d times alone", int(e), seen[e])
		}
	}
}

// TestLoadShuffled: P11.8: nodes in all other orders, left out, and twice.
func TestLoadShuffled(t *testing.T) {
	nodes := rich()[2:9]
	taken := 0
	for _, order := range permutations(len(nodes)) {
		var l []api.Node
		for _, i := range order {
			l = append(l, nodes[i])
		}
		if wantLoaded(t, l) == api.OK {
			taken++
		}
		if t.Failed() {
			return
		}
	}
	wantCount(t, "orders that are the document's", taken, 1)
	nodes = rich()
	for bits := range 1 << len(nodes) {
		var l []api.Node
		for i, n := range nodes {
			if bits>>i&1 == 1 {
				l = append(l, n)
			}
		}
		wantLoaded(t, l)
	}
	for i := range nodes {
		for k := range nodes {
			wantLoaded(t, slices.Insert(slices.Clone(nodes), k, nodes[i]))
			l := slices.Clone(nodes)
			l[i], l[k] = l[k], l[i]
			wantLoaded(t, l)
		}
	}
}

// TestFewDocuments: P11.5, P11.8, P11.12: all documents of few elements, laid in each order there is, by Insert and by Load.
func TestFewDocuments(t *testing.T) {
	ids := []api.ID{id(1, 1), id(1, 2), id(2, 1), id(2, 2), id(3, 1)}
	lists := [][]api.Node{nil}
	taken, refused := 0, 0
	for at := 0; at < len(lists); at++ {
		l := lists[at]
		if wantLoaded(t, l) == api.OK {
			taken++
		} else {
			refused++
		}
		b := newBoth()
		for _, n := range l {
			wantErrors(t, []api.Errno{wantInsert(t, b, n.ID, n.Ref, string(n.Rune))}, api.OK)
		}
		wantDocument(t, b)
		if got := wantLoaded(t, b.tree.Nodes()); got != api.OK || t.Failed() {
			t.Fatalf("Load(%v): %d", b.tree.Nodes(), int(got))
		}
		for i, of := range ids {
			for _, ref := range append(slices.Clone(ids), beginning) {
				next := append(slices.Clone(l), node(of, ref, rune('a'+i), api.StateShown))
				if first(nodeErrors(next, len(l))) == api.OK {
					lists = append(lists, next)
				} else {
					wantLoaded(t, next)
				}
			}
		}
	}
	if taken < 200 || refused < 2000 {
		t.Errorf("%d taken, %d refused alone", taken, refused)
	}
}

// TestLoadScripts: P11.12: what Load makes of Nodes goes on like the document itself.
func TestLoadScripts(t *testing.T) {
	for seed := range int64(80) {
		chance := rand.New(rand.NewSource(seed))
		b := newBoth()
		for range 20 {
			b.step(t, chance)
		}
		again := loaded(b.tree.Nodes())
		one, two := rand.New(rand.NewSource(seed)), rand.New(rand.NewSource(seed))
		again.model.nodes = slices.Clone(b.model.nodes)
		for range 20 {
			b.step(t, one)
			again.step(t, two)
			if !slices.Equal(b.tree.Nodes(), again.tree.Nodes()) {
				t.Fatalf("%v; loaded: %v", b.tree.Nodes(), again.tree.Nodes())
			}
		}
		wantWhole(t, again)
	}
}
