package tree_test

import (
	"math"
	"math/rand"
	"slices"
	"testing"

	"hearsay/api"
	"hearsay/tree"
)

// times is where runs may begin: about elements, about all limits, and so far below 0 that the longest ones just reach an element.
var times = []int{
	math.MinInt, math.MinInt + 1, -math.MaxInt + 1, -math.MaxInt + 2, -math.MaxInt + 3, -math.MaxInt + 6, -math.MaxInt + 11, -api.MaxTime, -3, -1, 0, 1, 2, 3, 4, 5, 6, 7, 8, 9, 10, 11,
	api.MaxTime - 1, api.MaxTime, api.MaxTime + 1, 1 << 32, 1<<32 + 1, math.MaxInt - 1, math.MaxInt,
}

var counts = []int{math.MinInt, -api.MaxTime, -1, 0, 1, 2, 3, 4, 5, 10, 11, api.MaxTime, api.MaxTime + 1, 1<<32 + 1, math.MaxInt - 1, math.MaxInt}

var sites = []int{math.MinInt, -1, 0, 1, 2, 3, 16, 17, 1<<32 + 1, math.MaxInt}

// wantTurned does Delete and Settle of runs, each twice, and holds them against what they must do.
func wantTurned(t *testing.T, nodes []api.Node, l []api.Run) {
	t.Helper()
	b := loaded(nodes)
	was := slices.Clone(l)
	wantSettle(t, b, l)
	wantDocument(t, b)
	wantDelete(t, b, l)
	wantDocument(t, b)
	wantCount(t, "Delete again", b.tree.Delete(l), 0)
	wantSettle(t, b, l)
	wantCount(t, "Settle again", b.tree.Settle(l), 0)
	wantDocument(t, b)
	wantCollect(t, b)
	wantDocument(t, b)
	if !slices.Equal(l, was) {
		t.Errorf("runs %v have become %v", was, l)
	}
}

// TestRuns: P11.3: every run by itself, about all limits.
func TestRuns(t *testing.T) {
	// An element at each limit of Times and of Sites.
	nodes := append([]api.Node{node(id(api.MaxTime, 16), beginning, 'y', 1), node(id(api.MaxTime, 1), beginning, 'x', 1)}, rich()...)
	wantTurned(t, nodes, nil)
	wantTurned(t, nodes, runs())
	for _, time := range times {
		for _, site := range sites {
			for _, count := range counts {
				wantTurned(t, nodes, runs(run(time, site, count)))
			}
		}
		if t.Failed() {
			return
		}
	}
}

// TestManyRuns: P11.3: lists of runs in any order, which meet, lie within one another, or name nothing.
func TestManyRuns(t *testing.T) {
	chance := rand.New(rand.NewSource(11))
	for range 6000 {
		var l []api.Run
		for range chance.Intn(8) {
			r := run(chance.Intn(12), 1+chance.Intn(3), chance.Intn(5)-1)
			if chance.Intn(4) == 0 {
				r = run(times[chance.Intn(len(times))], sites[chance.Intn(len(sites))], counts[chance.Intn(len(counts))])
			}
			l = append(l, r)
		}
		wantTurned(t, rich(), l)
		if t.Failed() {
			return
		}
	}
	// Written out: what is shown, deleted and settled ahead of it.
	d := loaded(rich()).tree
	wantCount(t, "Settle of what is shown or settled", d.Settle(runs(run(1, 1, 2), run(4, 1, 1), run(8, 1, 1), run(5, 2, 2))), 0)
	wantCount(t, "Delete of what is deleted or settled", d.Delete(runs(run(7, 1, 2), run(3, 1, 1), run(5, 2, 1), run(9, 1, 2))), 0)
	wantCount(t, "Delete", d.Delete(runs(run(4, 1, 9), run(1, 1, 3), run(2, 1, 1), run(6, 2, 1), run(6, 3, 1))), 4)
	if d.Text() != "z\uFFFD" {
		t.Errorf("%q", d.Text())
	}
	wantCount(t, "Settle", d.Settle(runs(run(1, 1, math.MaxInt))), 6)
	if _, state := d.Find(id(6, 2)); state != api.StateDeleted {
		t.Errorf("state %d", state)
	}
}

// TestCollect: P11.4, P11.12, P11.13: chains from their end, elements behind which others stand, and what may come behind Collect.
func TestCollect(t *testing.T) {
	for last := range 8 {
		b := newBoth()
		wantInsert(t, b, id(1, 1), beginning, "abcdefg")
		wantDelete(t, b, runs(run(1, 1, 7)))
		// Settled from the end on: each goes at once. From the beginning on: all go with the last one.
		for n := 7; n > last; n-- {
			wantSettle(t, b, runs(run(n, 1, 1)))
			wantCollect(t, b)
			wantCount(t, "Kept", b.tree.Kept(), n-1)
		}
		for n := 1; n <= last; n++ {
			wantCount(t, "Kept", b.tree.Kept(), last)
			wantSettle(t, b, runs(run(n, 1, 1)))
			wantCollect(t, b)
		}
		wantCount(t, "Kept", b.tree.Kept(), 0)
		wantWhole(t, b)
	}
	// Of a fork: what stands behind it holds it, shown or deleted; those beside one that goes stay in their order.
	b := loaded(rich())
	text := b.tree.Text()
	wantCount(t, "Collect", b.tree.Collect(), 1)
	wantCount(t, "Collect again", b.tree.Collect(), 0)
	b.model.collect()
	wantWhole(t, b)
	wantSettle(t, b, runs(run(10, 1, 1), run(7, 1, 1), run(3, 1, 1)))
	wantCount(t, "Collect", b.tree.Collect(), 3)
	b.model.collect()
	wantWhole(t, b)
	if b.tree.Text() != text || b.tree.Kept() != 8 {
		t.Errorf("%q, %d", b.tree.Text(), b.tree.Kept())
	}
	// What was forgotten is no element any more.
	wantErrors(t, []api.Errno{wantInsert(t, b, id(20, 1), id(7, 1), "a"), wantInsert(t, b, id(8, 1), id(1, 1), "b"), wantInsert(t, b, id(20, 1), id(3, 1), "c"), wantInsert(t, b, id(21, 1), id(8, 1), "d")},
		api.ErrNone, api.OK, api.OK, api.OK)
	wantWhole(t, b)
	// One of several, wherever it stands among them.
	for gone := range 5 {
		b := newBoth()
		for n := range 5 {
			wantInsert(t, b, id(n+1, 1), beginning, string(rune('a'+n)))
		}
		wantDelete(t, b, runs(run(gone+1, 1, 1)))
		wantCollect(t, b)
		wantCount(t, "Kept", b.tree.Kept(), 5)
		wantSettle(t, b, runs(run(gone+1, 1, 1)))
		wantCollect(t, b)
		wantCount(t, "Kept", b.tree.Kept(), 4)
		wantInsert(t, b, id(9, 1), beginning, "x")
		wantInsert(t, b, id(gone+1, 1), beginning, "y")
		wantWhole(t, b)
	}
}

// event is a call that may come once others have.
type event struct {
	do    func(d *tree.Tree) int
	after []int
}

func inserting(of, ref api.ID, text string, after ...int) event {
	return event{func(d *tree.Tree) int { return int(d.Insert(of, ref, text)) }, after}
}

func deleting(l []api.Run, after ...int) event {
	return event{func(d *tree.Tree) int { return d.Delete(l) - len(l) }, after}
}

func settling(l []api.Run, after ...int) event {
	return event{func(d *tree.Tree) int { return d.Settle(l) - len(l) }, after}
}

// rows is all orders of events in which each comes behind those it must.
func rows(events []event, done []int) [][]int {
	if len(done) == len(events) {
		return [][]int{slices.Clone(done)}
	}
	var l [][]int
	for i, x := range events {
		early := slices.ContainsFunc(x.after, func(n int) bool { return !slices.Contains(done, n) })
		if !early && !slices.Contains(done, i) {
			l = append(l, rows(events, append(slices.Clone(done), i))...)
		}
	}
	return l
}

// TestAnyOrder: P11.10: the same inserts in all orders in which each comes when its ref is there, with Delete and Settle between, make one document.
func TestAnyOrder(t *testing.T) {
	events := []event{
		inserting(id(1, 1), beginning, "ab"),
		inserting(id(2, 2), beginning, "x"),
		inserting(id(3, 2), id(1, 1), "yz", 0),
		inserting(id(3, 1), id(2, 1), "c", 0),
		inserting(id(3, 3), id(1, 1), "d", 0),
		inserting(id(9, 2), id(4, 2), "e", 2),
		deleting(runs(run(1, 1, 1), run(2, 1, 1)), 0),
		settling(runs(run(1, 1, 1)), 6),
		deleting(runs(run(4, 2, 1), run(3, 1, 1)), 2, 3),
		settling(runs(run(3, 1, 1)), 8),
	}
	all := rows(events, nil)
	if len(all) < 10000 {
		t.Fatalf("%d orders", len(all))
	}
	want := []api.Node{
		node(id(2, 2), beginning, 'x', 1), node(id(1, 1), beginning, 'a', 3), node(id(3, 3), id(1, 1), 'd', 1), node(id(3, 2), id(1, 1), 'y', 1), node(id(4, 2), id(3, 2), 'z', 2),
		node(id(9, 2), id(4, 2), 'e', 1), node(id(2, 1), id(1, 1), 'b', 2), node(id(3, 1), id(2, 1), 'c', 3),
	}
	for _, row := range all {
		d := tree.New()
		for _, i := range row {
			if wrong := events[i].do(d); wrong != 0 {
				t.Fatalf("%v: event %d: %d", row, i, wrong)
			}
		}
		if !slices.Equal(d.Nodes(), want) || d.Text() != "xdye" {
			t.Fatalf("%v: %v, %q", row, d.Nodes(), d.Text())
		}
		if d.Collect() != 1 || !slices.Equal(d.Nodes(), want[:7]) {
			t.Fatalf("%v: collected: %v", row, d.Nodes())
		}
	}
}

// common is the identifiers of nodes that stand in other ones too.
func common(nodes, others []api.Node) []api.ID {
	var l []api.ID
	for _, n := range nodes {
		if slices.ContainsFunc(others, func(x api.Node) bool { return x.ID == n.ID }) {
			l = append(l, n.ID)
		}
	}
	return l
}

var texts = []string{"a", "b", "é", "𝄞z", "abc", "\uFFFD", "xyzw", "", "\xff", "q\xe2\x82"}

// someID is an identifier by chance: of an element, higher than all, or any.
func (b both) someID(chance *rand.Rand) api.ID {
	if k := len(b.model.nodes); k > 0 && chance.Intn(3) > 0 {
		return b.model.nodes[chance.Intn(k)].ID
	}
	switch chance.Intn(12) {
	case 0:
		return id(edges[chance.Intn(len(edges))], 1+chance.Intn(3))
	case 1:
		return id(chance.Intn(9), edges[chance.Intn(len(edges))])
	}
	return id(1+chance.Intn(20), 1+chance.Intn(3))
}

// highest is an identifier that is higher than all that are there.
func (b both) highest() api.ID {
	of := id(1, 1)
	for _, n := range b.model.nodes {
		of.Time = max(of.Time, n.ID.Time+1)
	}
	return of
}

func (b both) someRuns(chance *rand.Rand) []api.Run {
	var l []api.Run
	for range chance.Intn(3) + 1 {
		of := b.someID(chance)
		l = append(l, run(of.Time-chance.Intn(2), of.Site, chance.Intn(4)))
	}
	return l
}

// step does one call by chance twice over.
func (b *both) step(t *testing.T, chance *rand.Rand) {
	t.Helper()
	switch chance.Intn(12) {
	case 0, 1, 2, 3:
		of := id(1+chance.Intn(20), 1+chance.Intn(3))
		ref := b.someID(chance)
		if chance.Intn(4) == 0 {
			ref = beginning
		}
		if chance.Intn(12) == 0 {
			of = b.someID(chance)
		}
		wantInsert(t, *b, of, ref, texts[chance.Intn(len(texts))])
	case 4, 5:
		wantInsert(t, *b, b.highest(), b.someID(chance), texts[chance.Intn(len(texts))])
	case 6, 7:
		wantDelete(t, *b, b.someRuns(chance))
	case 8, 9:
		wantSettle(t, *b, b.someRuns(chance))
	case 10:
		text := b.tree.Text()
		wantCollect(t, *b)
		if b.tree.Text() != text {
			t.Errorf("Collect makes %q of %q", b.tree.Text(), text)
		}
	case 11:
		again, e := tree.Load(b.tree.Nodes())
		if e != api.OK {
			t.Fatalf("Load(%v): %d", b.tree.Nodes(), int(e))
		}
		b.tree = again
	}
}

// TestScripts: P11.2 to P11.13: calls by chance, each held against what it must do; no two elements ever change their order; Load in the midst.
func TestScripts(t *testing.T) {
	chance := rand.New(rand.NewSource(1111))
	for range 400 {
		b := newBoth()
		for range 40 {
			was := b.tree.Nodes()
			b.step(t, chance)
			wantDocument(t, b)
			if now := b.tree.Nodes(); !slices.Equal(common(was, now), common(now, was)) {
				t.Errorf("%v have become %v", was, now)
			}
		}
		wantWhole(t, b)
		if t.Failed() {
			return
		}
	}
}

// TestInTurns: W2, W6: two documents in turns, which know nothing of one another.
func TestInTurns(t *testing.T) {
	chance := rand.New(rand.NewSource(112))
	for range 60 {
		one, two := newBoth(), loaded(rich())
		for range 40 {
			if chance.Intn(2) == 0 {
				one.step(t, chance)
			} else {
				two.step(t, chance)
			}
			wantDocument(t, one)
			wantDocument(t, two)
		}
		if t.Failed() {
			return
		}
	}
}

// TestJustBehind: P11.11: by an identifier that is higher than all that are there, a text comes to the rune number i, at each i.
func TestJustBehind(t *testing.T) {
	chance := rand.New(rand.NewSource(113))
	for range 300 {
		b := newBoth()
		for range 25 {
			b.step(t, chance)
		}
		nodes := b.tree.Nodes()
		if b.highest().Time >= api.MaxTime {
			continue
		}
		for i := range b.tree.Len() + 1 {
			b := loaded(nodes)
			ref := beginning
			if i > 0 {
				ref, _ = b.tree.At(i - 1)
			}
			of := b.highest()
			runes := []rune(b.tree.Text())
			want := string(runes[:i]) + "né" + string(runes[i:])
			if e := wantInsert(t, b, of, ref, "né"); e != api.OK || b.tree.Text() != want {
				t.Errorf("at %d: %d, %q; want %q", i, int(e), b.tree.Text(), want)
			}
			// In the order of all elements nothing stands between.
			now := b.tree.Nodes()
			at := slices.IndexFunc(now, func(n api.Node) bool { return n.ID == of })
			if ref == beginning && at != 0 || ref != beginning && now[at-1].ID != ref || now[at+1].ID != id(of.Time+1, of.Site) {
				t.Errorf("at %d: %v", i, now)
			}
		}
		if t.Failed() {
			return
		}
	}
	// Of one Time with the highest one, by the Site.
	b := loaded(rich())
	wantInsert(t, b, id(10, 2), id(4, 1), "x")
	wantInsert(t, b, id(10, 3), beginning, "y")
	if b.tree.Text() != "yhéz"+"b\uFFFD𝄞x" {
		t.Errorf("%q", b.tree.Text())
	}
}
