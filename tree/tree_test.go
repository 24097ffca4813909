package tree_test

import (
	"fmt"
	"math"
	"slices"
	"strings"
	"testing"

	"hearsay/api"
	"hearsay/tree"
)

func id(time, site int) api.ID { return api.ID{Time: time, Site: site} }

func run(time, site, count int) api.Run { return api.Run{ID: id(time, site), Count: count} }

func runs(l ...api.Run) []api.Run { return l }

func node(of, ref api.ID, r rune, state int) api.Node {
	return api.Node{ID: of, Ref: ref, Rune: r, State: state}
}

var beginning api.ID

// rich is a document with elements of all states that stand behind one another in many ways; each call makes a new list.
func rich() []api.Node {
	return []api.Node{
		node(id(7, 1), beginning, 'ñ', api.StateDeleted),
		node(id(8, 1), id(7, 1), '!', api.StateSettled),
		node(id(1, 1), beginning, 'h', api.StateShown),
		node(id(2, 1), id(1, 1), 'é', api.StateShown),
		node(id(5, 3), id(2, 1), 'z', api.StateShown),
		node(id(5, 2), id(2, 1), 'a', api.StateSettled),
		node(id(6, 2), id(5, 2), 'b', api.StateShown),
		node(id(9, 16), id(6, 2), api.Bad, api.StateShown),
		node(id(3, 1), id(2, 1), 'y', api.StateDeleted),
		node(id(4, 1), id(3, 1), '𝄞', api.StateShown),
		node(id(9, 1), id(4, 1), 'q', api.StateSettled),
		node(id(10, 1), id(9, 1), 0, api.StateDeleted),
	}
}

// edges is numbers about each limit there is.
var edges = []int{
	math.MinInt, -api.MaxTime - 1, -1, 0, 1, 2, 3, 4, 5, 9, 10, 11, api.MaxSites, api.MaxSites + 1,
	api.MaxTime - 2, api.MaxTime - 1, api.MaxTime, api.MaxTime + 1, 1 << 32, 1<<32 + 1, math.MaxInt,
}

// wantDocument holds what a document tells as a whole against the same worked out a second time.
func wantDocument(t *testing.T, b both) {
	t.Helper()
	ordered, shown := b.model.ordered(), b.model.shown()
	if got := b.tree.Nodes(); !slices.Equal(got, ordered) {
		t.Errorf("Nodes: %v; want %v", got, ordered)
	}
	if got, want := b.tree.Text(), textOf(shown); got != want {
		t.Errorf("%v: Text: %q; want %q", ordered, got, want)
	}
	if got, want := b.tree.Len(), len(shown); got != want {
		t.Errorf("%v: Len: %d; want %d", ordered, got, want)
	}
	if got, want := b.tree.Kept(), len(ordered); got != want {
		t.Errorf("%v: Kept: %d; want %d", ordered, got, want)
	}
	if got, want := pairs(b.tree.All()), pairsOf(shown); !slices.Equal(got, want) {
		t.Errorf("%v: All: %v; want %v", ordered, got, want)
	}
}

// wantAt holds At of one number against what it must be.
func wantAt(t *testing.T, b both, shown []api.Node, i int) {
	t.Helper()
	var want api.ID
	wantErr := api.ErrIndex
	if i >= 0 && i < len(shown) {
		want, wantErr = shown[i].ID, api.OK
	}
	if got, err := b.tree.At(i); got != want || err != wantErr {
		t.Errorf("%v: At(%d): %v, %d; want %v, %d", shown, i, got, int(err), want, int(wantErr))
	}
	if ahead, state := b.tree.Find(want); wantErr == api.OK && (ahead != i || state != api.StateShown) {
		t.Errorf("%v: Find(At(%d)): %d, %d", shown, i, ahead, state)
	}
}

// wantSpan holds Span of two numbers against what it must be.
func wantSpan(t *testing.T, b both, shown []api.Node, i, n int) {
	t.Helper()
	var want []api.Run
	wantErr := api.ErrIndex
	if i >= 0 && n >= 0 && i <= len(shown) && n <= len(shown) && i+n <= len(shown) {
		want, wantErr = wantRuns(shown[i:i+n]), api.OK
	}
	if got, err := b.tree.Span(i, n); !slices.Equal(got, want) || err != wantErr {
		t.Errorf("%v: Span(%d, %d): %v, %d; want %v, %d", shown, i, n, got, int(err), want, int(wantErr))
	}
}

// wantPlaces holds At, Find and Span at every number of a document, and about its limits, against what they must be.
func wantPlaces(t *testing.T, b both) {
	t.Helper()
	ordered, shown := b.model.ordered(), b.model.shown()
	numbers := []int{math.MinInt, math.MinInt + 1, -len(shown), -2, -1, math.MaxInt - len(shown), math.MaxInt - 1, math.MaxInt, 1 << 32}
	for i := range len(shown) + 3 {
		numbers = append(numbers, i)
	}
	for _, i := range numbers {
		wantAt(t, b, shown, i)
		for _, n := range numbers {
			wantSpan(t, b, shown, i, n)
		}
	}
	ids := []api.ID{beginning, id(7, 7), id(0, 1), id(1, 0), id(-1, -1), id(math.MinInt, math.MaxInt), id(1<<32+1, 1)}
	for _, n := range ordered {
		ids = append(ids, n.ID, id(n.ID.Time, n.ID.Site+1), id(n.ID.Time+1, n.ID.Site))
	}
	for _, of := range ids {
		ahead, state := b.tree.Find(of)
		if wantAhead, wantState := wantFind(ordered, of); ahead != wantAhead || state != wantState {
			t.Errorf("%v: Find(%v): %d, %d; want %d, %d", ordered, of, ahead, state, wantAhead, wantState)
		}
	}
}

// wantWhole holds all that a document tells against what it must be, and the one that Load makes of its Nodes too.
func wantWhole(t *testing.T, b both) {
	t.Helper()
	wantDocument(t, b)
	wantPlaces(t, b)
	again, e := tree.Load(b.tree.Nodes())
	if e != api.OK {
		t.Errorf("Load(%v): %d", b.tree.Nodes(), int(e))
	}
	wantDocument(t, both{again, b.model})
	wantPlaces(t, both{again, b.model})
}

// wantInsert does an insert twice over, holds its error against what it must be, and says it; what is refused changes nothing.
func wantInsert(t *testing.T, b both, of, ref api.ID, text string) api.Errno {
	t.Helper()
	was := b.tree.Nodes()
	got, want := b.tree.Insert(of, ref, text), b.model.insert(of, ref, text)
	if got != want {
		t.Errorf("%v: Insert(%v, %v, %q): %d; want %d", was, of, ref, text, int(got), int(want))
	}
	if got != api.OK && !slices.Equal(b.tree.Nodes(), was) {
		t.Errorf("%v: Insert(%v, %v, %q) is refused and leaves %v", was, of, ref, text, b.tree.Nodes())
	}
	return got
}

// wantCount holds what a call says how many there were against what it must be.
func wantCount(t *testing.T, what string, got, want int) {
	t.Helper()
	if got != want {
		t.Errorf("%s: %d; want %d", what, got, want)
	}
}

// wantDelete, wantSettle and wantCollect do their call twice over, and hold its answer against what it must be.
func wantDelete(t *testing.T, b both, l []api.Run) {
	t.Helper()
	wantCount(t, fmt.Sprintf("Delete(%v)", l), b.tree.Delete(l), b.model.delete(l))
}

func wantSettle(t *testing.T, b both, l []api.Run) {
	t.Helper()
	wantCount(t, fmt.Sprintf("Settle(%v)", l), b.tree.Settle(l), b.model.settle(l))
}

func wantCollect(t *testing.T, b both) {
	t.Helper()
	wantCount(t, "Collect", b.tree.Collect(), b.model.collect())
	wantCount(t, "Collect behind Collect", b.tree.Collect(), 0)
}

// exampleTree is the document of the chapter's first two rows.
func exampleTree(t *testing.T) *tree.Tree {
	t.Helper()
	d := tree.New()
	wantErrors(t, []api.Errno{d.Insert(id(1, 1), beginning, "héy")}, api.OK)
	at, e := d.At(1)
	if d.Text() != "héy" || d.Len() != 3 || at != id(2, 1) || e != api.OK {
		t.Errorf("%q, %d, %v, %d", d.Text(), d.Len(), at, int(e))
	}
	wantErrors(t, []api.Errno{d.Insert(id(4, 2), id(1, 1), "x"), d.Insert(id(4, 3), id(1, 1), "z")}, api.OK, api.OK)
	if d.Text() != "hzxéy" {
		t.Errorf("%q", d.Text())
	}
	return d
}

func wantErrors(t *testing.T, got []api.Errno, want ...api.Errno) {
	t.Helper()
	if !slices.Equal(got, want) {
		t.Errorf("%v; want %v", got, want)
	}
}

// TestExamples: all rows of the chapter's examples.
func TestExamples(t *testing.T) {
	d := exampleTree(t)
	wantErrors(t, []api.Errno{
		d.Insert(id(4, 2), id(1, 1), "q"), d.Insert(id(3, 2), id(4, 3), "q"), d.Insert(id(9, 1), id(8, 1), "q"), d.Insert(id(9, 1), id(1, 1), "\xff"), d.Insert(id(0, 1), id(1, 1), "q"),
		d.Insert(id(2147483647, 1), id(1, 1), "ab"),
	}, api.ErrExists, api.ErrOrder, api.ErrNone, api.ErrText, api.ErrArg, api.ErrArg)
	span, e := d.Span(0, 5)
	if !slices.Equal(span, runs(run(1, 1, 3), run(4, 2, 1), run(4, 3, 1))) || e != api.OK {
		t.Errorf("%v, %d", span, int(e))
	}
	if span, e = d.Span(4, 2); len(span) != 0 || e != api.ErrIndex {
		t.Errorf("%v, %d", span, int(e))
	}
	ahead, state := d.Find(id(3, 1))
	none, zero := d.Find(id(7, 7))
	if ahead != 4 || state != api.StateShown || none != 0 || zero != 0 {
		t.Errorf("%d, %d; %d, %d", ahead, state, none, zero)
	}
	gone := d.Delete(runs(run(1, 1, 3)))
	ahead, state = d.Find(id(2, 1))
	if gone != 3 || d.Text() != "zx" || ahead != 2 || state != api.StateDeleted || d.Kept() != 5 {
		t.Errorf("%d, %q, %d, %d, %d", gone, d.Text(), ahead, state, d.Kept())
	}
	counts := []int{d.Collect(), d.Settle(runs(run(1, 1, 2))), d.Collect(), d.Settle(runs(run(3, 1, 9))), d.Collect(), d.Kept()}
	if !slices.Equal(counts, []int{0, 2, 0, 1, 2, 3}) {
		t.Errorf("%v", counts)
	}
	that := []api.Node{node(id(1, 1), beginning, 'h', api.StateSettled), node(id(4, 3), id(1, 1), 'z', api.StateShown), node(id(4, 2), id(1, 1), 'x', api.StateShown)}
	if !slices.Equal(d.Nodes(), that) {
		t.Errorf("%v", d.Nodes())
	}
	same, e := tree.Load(that)
	if e != api.OK || !slices.Equal(same.Nodes(), that) {
		t.Errorf("%v, %d", same.Nodes(), int(e))
	}
	one, e1 := tree.Load([]api.Node{that[0], that[2], that[1]})
	two, e2 := tree.Load(that[1:2])
	if one != nil || e1 != api.ErrOrder || two != nil || e2 != api.ErrNone {
		t.Errorf("%v, %d; %v, %d", one, int(e1), two, int(e2))
	}
}

// TestEmpty: P11.1: New, a zero Tree and Load of nothing have no element, and take the first one.
func TestEmpty(t *testing.T) {
	var zero tree.Tree
	none, e := tree.Load(nil)
	empty, e2 := tree.Load([]api.Node{})
	wantErrors(t, []api.Errno{e, e2}, api.OK, api.OK)
	for _, d := range []*tree.Tree{tree.New(), {}, &zero, none, empty} {
		b := both{d, &model{}}
		wantWhole(t, b)
		wantDelete(t, b, runs(run(1, 1, math.MaxInt)))
		wantSettle(t, b, runs(run(1, 1, math.MaxInt)))
		wantCollect(t, b)
		wantInsert(t, b, id(2, 1), id(1, 1), "a")
		wantWhole(t, b)
		if e := wantInsert(t, b, id(2, 1), beginning, "ab"); e != api.OK || d.Text() != "ab" {
			t.Errorf("%d, %q", int(e), d.Text())
		}
		wantWhole(t, b)
	}
	if tree.New() == tree.New() {
		t.Error("New answers one document twice")
	}
}

// TestNil: P11.9, W8: a nil Tree, to which nothing happens.
func TestNil(t *testing.T) {
	var d *tree.Tree
	for range 2 {
		at, e1 := d.At(0)
		span, e2 := d.Span(0, 0)
		_, e3 := d.At(-1)
		_, e4 := d.Span(-1, math.MaxInt)
		wantErrors(t, []api.Errno{d.Insert(id(1, 1), beginning, "a"), d.Insert(beginning, beginning, ""), d.Insert(id(1, 1), id(1, 1), "\xff"), e1, e2, e3, e4},
			api.ErrArg, api.ErrArg, api.ErrArg, api.ErrArg, api.ErrArg, api.ErrArg, api.ErrArg)
		all := runs(run(1, 1, math.MaxInt))
		ahead, state := d.Find(id(1, 1))
		first, zero := d.Find(beginning)
		counts := []int{d.Delete(all), d.Settle(all), d.Delete(nil), d.Settle(nil), d.Collect(), d.Len(), d.Kept(), ahead, state, first, zero, len(d.Nodes()), len(span)}
		if !slices.Equal(counts, make([]int, 13)) || d.Text() != "" || at != beginning {
			t.Errorf("%v, %q, %v", counts, d.Text(), at)
		}
		if d.All() == nil || len(pairs(d.All())) != 0 {
			t.Error("All hands on something")
		}
	}
}

// TestInsertErrors: P11.2: each error by itself, about its limits; and which one comes first.
func TestInsertErrors(t *testing.T) {
	last := id(api.MaxTime, 16)
	for _, x := range []struct {
		of, ref api.ID
		text    string
		want    api.Errno
	}{
		{id(0, 1), id(1, 1), "a", api.ErrArg}, {id(-1, 1), beginning, "a", api.ErrArg}, {id(api.MaxTime+1, 1), beginning, "a", api.ErrArg}, {id(11, 0), beginning, "a", api.ErrArg}, {id(11, 17), beginning, "a", api.ErrArg},
		{id(11, -1), beginning, "a", api.ErrArg}, {beginning, beginning, "a", api.ErrArg}, {id(math.MaxInt, 1), beginning, "ab", api.ErrArg}, {id(math.MinInt, math.MinInt), beginning, "a", api.ErrArg},
		{id(11, 1), id(0, 1), "a", api.ErrArg}, {id(11, 1), id(1, 0), "a", api.ErrArg}, {id(11, 1), id(1, 17), "a", api.ErrArg}, {id(11, 1), id(-1, 1), "a", api.ErrArg}, {id(11, 1), id(api.MaxTime+1, 1), "a", api.ErrArg},
		{id(11, 1), id(math.MaxInt, 1), "a", api.ErrArg}, {id(11, 1), id(1, -1), "a", api.ErrArg}, {id(11, 1), id(1<<32+1, 1), "a", api.ErrArg}, {id(11, 1), id(1, 1<<32+1), "a", api.ErrArg},
		{id(11, 1), beginning, "a", api.OK}, {id(11, 16), id(1, 1), "a", api.OK}, {last, id(1, 1), "a", api.OK}, {id(api.MaxTime, 1), beginning, "𝄞", api.OK},
		// Texts, and ahead of them what is no identifier.
		{id(11, 1), id(1, 1), "", api.ErrText}, {id(11, 1), id(1, 1), "\xff", api.ErrText}, {id(11, 1), id(1, 1), "ab\xe2\x82", api.ErrText}, {id(11, 1), id(1, 1), "\xed\xa0\x80", api.ErrText}, {id(11, 1), id(1, 1), "\xc0\x80b", api.ErrText},
		{id(0, 1), id(1, 1), "", api.ErrArg}, {id(11, 1), id(1, 17), "\xff", api.ErrArg}, {id(11, 1), id(1, 1), "\uFFFD\x00", api.OK},
		// The last Time, behind the text, ahead of the order.
		{last, id(1, 1), "ab", api.ErrArg}, {id(api.MaxTime-1, 1), id(1, 1), "ab", api.OK}, {id(api.MaxTime-1, 1), id(1, 1), "abc", api.ErrArg}, {id(api.MaxTime-1, 1), id(1, 1), "éé", api.OK}, {id(api.MaxTime-2, 1), beginning, "é𝄞z", api.OK},
		{id(api.MaxTime-2, 1), beginning, "é𝄞za", api.ErrArg}, {last, id(1, 1), "", api.ErrText}, {last, id(1, 1), "a\xff", api.ErrText}, {last, last, "ab", api.ErrArg}, {last, id(15, 15), "ab", api.ErrArg},
		// Refs that are not lower, ahead of whether they are there.
		{id(11, 1), id(11, 1), "a", api.ErrOrder}, {id(11, 1), id(11, 2), "a", api.ErrOrder}, {id(11, 1), id(12, 1), "a", api.ErrOrder}, {id(4, 2), id(9, 1), "a", api.ErrOrder}, {id(5, 1), id(5, 2), "a", api.ErrOrder},
		{id(5, 4), id(5, 3), "a", api.OK}, {id(1, 2), id(1, 1), "a", api.OK}, {id(10, 1), id(10, 1), "a", api.ErrOrder}, {id(9, 1), id(10, 1), "a", api.ErrOrder}, {last, last, "a", api.ErrOrder}, {id(1, 1), last, "a", api.ErrOrder},
		{id(11, 2), id(11, 1), "a", api.ErrNone}, {id(11, 1), id(6, 1), "a", api.ErrNone}, {id(11, 1), id(1, 2), "a", api.ErrNone}, {last, id(11, 1), "a", api.ErrNone}, {id(5, 3), id(5, 1), "a", api.ErrNone},
		// What is there already, of one rune and of several.
		{id(1, 1), beginning, "a", api.ErrExists}, {id(5, 3), id(2, 1), "z", api.ErrExists}, {id(5, 3), beginning, "z", api.ErrExists}, {id(8, 1), id(7, 1), "a", api.ErrExists}, {id(7, 16), beginning, "abc", api.ErrExists},
		{id(8, 16), beginning, "abc", api.ErrExists}, {id(9, 16), beginning, "abc", api.ErrExists}, {id(7, 16), beginning, "ab", api.OK}, {id(10, 16), beginning, "abc", api.OK}, {id(3, 3), beginning, "abc", api.ErrExists}, {id(3, 3), beginning, "ab", api.OK},
		{id(3, 2), id(1, 1), "abc", api.ErrExists}, {id(3, 4), id(1, 1), "abc", api.OK}, {id(6, 1), id(11, 1), "abc", api.ErrOrder}, {id(7, 1), id(6, 1), "abc", api.ErrNone}, {id(1, 1), id(1, 1), "", api.ErrText},
	} {
		b := loaded(rich())
		if got := wantInsert(t, b, x.of, x.ref, x.text); got != x.want {
			t.Errorf("Insert(%v, %v, %q): %d; want %d", x.of, x.ref, x.text, int(got), int(x.want))
		}
		wantWhole(t, b)
	}
}

// TestInsertGrid: P11.2: identifiers, refs and texts about all limits, each with each.
func TestInsertGrid(t *testing.T) {
	var ids []api.ID
	for _, time := range edges {
		for _, site := range []int{math.MinInt, -1, 0, 1, 2, 16, 17, 1<<32 + 1, math.MaxInt} {
			ids = append(ids, id(time, site))
		}
	}
	for _, n := range rich() {
		if !slices.Contains(ids, n.ID) {
			ids = append(ids, n.ID)
		}
	}
	taken := map[api.Errno]int{}
	b := loaded(rich())
	for _, of := range ids {
		for _, ref := range ids {
			for _, text := range []string{"", "\xff", "a\xe2\x82", "a", "é𝄞", "\uFFFD", "abc"} {
				got := wantInsert(t, b, of, ref, text)
				taken[got]++
				if got == api.OK {
					wantDocument(t, b)
					b = loaded(rich())
				}
			}
		}
		if t.Failed() {
			return
		}
	}
	for _, e := range []api.Errno{api.OK, api.ErrArg, api.ErrText, api.ErrOrder, api.ErrNone, api.ErrExists} {
		if taken[e] < 50 {
			t.Errorf("the error %d came %d times alone", int(e), taken[e])
		}
	}
}

// TestInsertLaid: P11.2: an element for each rune, shown, each behind the one ahead of it; behind refs of all three states.
func TestInsertLaid(t *testing.T) {
	for _, ref := range append(rich(), api.Node{}) {
		d := loaded(rich()).tree
		if e := d.Insert(id(100, 9), ref.ID, "é\x00𝄞"); e != api.OK {
			t.Fatalf("behind %v: %d", ref, int(e))
		}
		want := []api.Node{node(id(100, 9), ref.ID, 'é', api.StateShown), node(id(101, 9), id(100, 9), 0, api.StateShown), node(id(102, 9), id(101, 9), '𝄞', api.StateShown)}
		// It is the highest one: so it stands just behind its ref.
		nodes := d.Nodes()
		at := 1 + slices.IndexFunc(nodes, func(n api.Node) bool { return n.ID == ref.ID })
		if !slices.Equal(nodes[at:at+3], want) || !slices.Equal(slices.Delete(nodes, at, at+3), rich()) {
			t.Errorf("behind %v: %v", ref, d.Nodes())
		}
	}
	// Each rune that the text's bytes begin is one element.
	d := tree.New()
	text := "a\u0301\r\n\U0010FFFF\uD7FF\uE000\x7f\u0080\u07FF\u0800\uFFFF\U00010000"
	if e := d.Insert(id(5, 5), beginning, text); e != api.OK || d.Text() != text || d.Kept() != 13 {
		t.Errorf("%d, %q, %d", int(e), d.Text(), d.Kept())
	}
}

// TestSiblings: P11.2, P11.5: those behind one ref, laid in each order there is, stand by their identifiers, the higher ones first, each with what stands behind it.
func TestSiblings(t *testing.T) {
	ids := []api.ID{id(2, 2), id(2, 3), id(4, 1), id(5, 16), id(30, 1), id(30, 2)}
	for _, order := range permutations(len(ids)) {
		for _, ref := range []api.ID{beginning, id(1, 1)} {
			b := newBoth()
			wantInsert(t, b, id(1, 1), beginning, "r")
			for _, i := range order {
				wantInsert(t, b, ids[i], ref, string(rune('a'+i))+"-")
			}
			want := "rf-e-d-c-b-a-"
			if ref == beginning {
				want = "f-e-d-c-b-a-r"
			}
			if b.tree.Text() != want {
				t.Errorf("%v behind %v: %q", order, ref, b.tree.Text())
			}
			wantDocument(t, b)
		}
		if t.Failed() {
			return
		}
	}
}

// permutations is all orders of the numbers below n.
func permutations(n int) [][]int {
	if n == 0 {
		return [][]int{nil}
	}
	var l [][]int
	for _, p := range permutations(n - 1) {
		for at := range n {
			l = append(l, slices.Insert(slices.Clone(p), at, n-1))
		}
	}
	return l
}

// TestPlaces: P11.6, P11.7: At, Find and Span at every number, of the rich document and of ones that show all or nothing.
func TestPlaces(t *testing.T) {
	wantWhole(t, loaded(rich()))
	for state := api.StateShown; state <= api.StateSettled; state++ {
		nodes := rich()
		for i := range nodes {
			nodes[i].State = state
		}
		wantWhole(t, loaded(nodes))
	}
	d := loaded(rich()).tree
	if d.Text() != "héz"+"b\uFFFD𝄞" || d.Len() != 6 || d.Kept() != 12 {
		t.Errorf("%q, %d, %d", d.Text(), d.Len(), d.Kept())
	}
	for _, x := range []struct {
		of           api.ID
		ahead, state int
	}{{id(7, 1), 0, 2}, {id(8, 1), 0, 3}, {id(1, 1), 0, 1}, {id(5, 2), 3, 3}, {id(3, 1), 5, 2}, {id(4, 1), 5, 1}, {id(10, 1), 6, 2}, {id(11, 1), 0, 0}, {beginning, 0, 0}} {
		if ahead, state := d.Find(x.of); ahead != x.ahead || state != x.state {
			t.Errorf("Find(%v): %d, %d", x.of, ahead, state)
		}
	}
	for _, x := range []struct {
		i, n int
		want []api.Run
		err  api.Errno
	}{
		{0, 0, nil, api.OK}, {6, 0, nil, api.OK}, {7, 0, nil, api.ErrIndex}, {0, 7, nil, api.ErrIndex}, {-1, 1, nil, api.ErrIndex}, {1, -1, nil, api.ErrIndex}, {math.MaxInt, math.MaxInt, nil, api.ErrIndex}, {math.MaxInt, 1, nil, api.ErrIndex},
		{1, math.MaxInt, nil, api.ErrIndex}, {2, 2, runs(run(5, 3, 1), run(6, 2, 1)), api.OK}, {5, 1, runs(run(4, 1, 1)), api.OK}, {0, 6, runs(run(1, 1, 2), run(4, 1, 1), run(5, 3, 1), run(6, 2, 1), run(9, 16, 1)), api.OK},
	} {
		if got, e := d.Span(x.i, x.n); !slices.Equal(got, x.want) || e != x.err {
			t.Errorf("Span(%d, %d): %v, %d; want %v, %d", x.i, x.n, got, int(e), x.want, int(x.err))
		}
	}
}

// TestIterators: W1, W7: All goes through what there was at the call that made it: told to stop, twice, within itself, and with calls between.
func TestIterators(t *testing.T) {
	b := loaded(rich())
	want := pairsOf(b.model.shown())
	all := b.tree.All()
	for stop := range len(want) + 1 {
		handed := 0
		all(func(of api.ID, r rune) bool {
			if want[handed].ID != of || want[handed].Rune != r {
				t.Errorf("number %d: %v, %q", handed, of, r)
			}
			handed++
			return handed < stop
		})
		wantCount(t, "handed on", handed, max(stop, 1))
	}
	var nested []api.Node
	for of, r := range all {
		nested = append(nested, api.Node{ID: of, Rune: r})
		if inner := pairs(all); !slices.Equal(inner, want) {
			t.Errorf("within: %v", inner)
		}
		for of2 := range all {
			if of2 == of {
				break
			}
		}
	}
	if !slices.Equal(nested, want) {
		t.Errorf("%v; want %v", nested, want)
	}
	// Whatever is done between, and while it is gone through.
	handed := 0
	for of, r := range all {
		if want[handed].ID != of || want[handed].Rune != r {
			t.Errorf("number %d: %v, %q", handed, of, r)
		}
		handed++
		wantInsert(t, b, id(100+handed, 1), of, "xy")
		wantDelete(t, b, runs(run(of.Time, of.Site, 3)))
		wantSettle(t, b, runs(run(of.Time, of.Site, 3)))
		wantCollect(t, b)
	}
	wantCount(t, "handed on", handed, len(want))
	if got := pairs(all); !slices.Equal(got, want) {
		t.Errorf("%v; want %v", got, want)
	}
	wantWhole(t, b)
	early := tree.New().All()
	if len(pairs(early)) != 0 {
		t.Error("All of nothing hands on something")
	}
}

// TestMemory: P11.14, W6: what is handed in is unchanged, spare room too, and changing it afterwards, or what was answered, changes nothing.
func TestMemory(t *testing.T) {
	room := append(rich(), node(id(99, 9), id(98, 9), 'r', 9), node(id(97, 9), id(96, 9), 's', 8))
	was := slices.Clone(room)
	d, e := tree.Load(room[:12])
	if e != api.OK || !slices.Equal(room, was) {
		t.Errorf("Load: %d, %v", int(e), room)
	}
	clear(room)
	b := both{d, &model{rich()}}
	wantWhole(t, b)

	l := runs(run(5, 3, 1), run(1, 1, 2), run(6, 2, -1), run(4, 1, 1), run(9, 9, 9))
	had := slices.Clone(l)
	wantDelete(t, b, l[:4])
	wantSettle(t, b, l[:3])
	if !slices.Equal(l, had) {
		t.Errorf("Delete, Settle: %v", l)
	}
	clear(l)
	wantWhole(t, b)
	wantCollect(t, b)

	nodes, others := d.Nodes(), d.Nodes()
	spans, _ := d.Span(0, d.Len())
	otherSpans, _ := d.Span(0, d.Len())
	kept, keptSpans := slices.Clone(others), slices.Clone(otherSpans)
	if len(kept) == 0 || len(keptSpans) == 0 {
		t.Fatal("nothing to spoil")
	}
	clear(nodes[:cap(nodes)])
	clear(spans[:cap(spans)])
	if !slices.Equal(others, kept) || !slices.Equal(otherSpans, keptSpans) {
		t.Errorf("two answers share their memory: %v, %v", others, otherSpans)
	}
	wantWhole(t, b)
	wantInsert(t, b, id(50, 1), beginning, "ab")
	if !slices.Equal(others, kept) || !slices.Equal(otherSpans, keptSpans) {
		t.Errorf("an answer has changed: %v, %v", others, otherSpans)
	}
	wantWhole(t, b)
}

// TestCopied: W8: a document that is copied as a value goes on as the copy.
func TestCopied(t *testing.T) {
	for _, nodes := range [][]api.Node{nil, rich()} {
		b := loaded(nodes)
		for n := range 4 {
			copied := *b.tree
			b.tree = &copied
			wantInsert(t, b, id(20+n, 1), beginning, "a")
			wantInsert(t, b, id(30+2*n, 2), id(20, 1), "bc")
			wantDelete(t, b, runs(run(20+n, 1, 1)))
			wantSettle(t, b, runs(run(20+n, 1, 1)))
			wantCollect(t, b)
			wantWhole(t, b)
		}
	}
}

// TestLong: W1: a text that is a long chain, many elements behind one, and long lists of runs that overlap.
func TestLong(t *testing.T) {
	const length = 1 << 19
	text := strings.Repeat("aé", length/2)
	d := tree.New()
	wantErrors(t, []api.Errno{d.Insert(id(2, 1), beginning, text), d.Insert(id(1, 1), beginning, "ab"), d.Insert(id(length+1, 1), beginning, "a")}, api.OK, api.ErrExists, api.ErrExists)
	last, e := d.At(length - 1)
	ahead, state := d.Find(last)
	span, _ := d.Span(1, length-1)
	if d.Text() != text || last != id(length+1, 1) || e != api.OK || ahead != length-1 || state != api.StateShown || !slices.Equal(span, runs(run(3, 1, length-1))) {
		t.Error("a long chain")
	}
	again, e := tree.Load(d.Nodes())
	if e != api.OK || again.Text() != text {
		t.Errorf("Load: %d", int(e))
	}
	every := runs(run(math.MinInt, 1, math.MaxInt), run(0, 1, math.MaxInt))
	wantCount(t, "Delete", d.Delete(every), length)
	wantCount(t, "Settle, but one", d.Settle(runs(run(2, 1, length/2), run(length/2+3, 1, length))), length-1)
	wantCount(t, "Collect", d.Collect(), length/2-1)
	wantCount(t, "Settle", d.Settle(every), 1)
	wantCount(t, "Collect", d.Collect(), length/2+1)
	wantCount(t, "Kept", d.Kept(), 0)

	const wide = 1 << 15
	var many []api.Run
	named := 0
	for n := range wide {
		wantErrors(t, []api.Errno{d.Insert(id(n+1, 1+n%16), beginning, "x")}, api.OK)
		many = append(many, run(n+1, 1+n*7%16, wide))
		// The first run of its site begins at 7 times the site's number, as 7 times 7 is 1 of 16.
		if n >= n%16*7%16 {
			named++
		}
	}
	again, e = tree.Load(d.Nodes())
	if e != api.OK || again.Len() != wide || d.Len() != wide {
		t.Errorf("Load: %d", int(e))
	}
	nodes := d.Nodes()
	slices.Reverse(nodes)
	_, e = tree.Load(nodes)
	wantErrors(t, []api.Errno{e}, api.ErrOrder)
	slices.Reverse(many)
	wantCount(t, "Delete", d.Delete(many), named)
	wantCount(t, "shown", d.Len(), wide-named)
}
