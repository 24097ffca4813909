package past_test

import (
	"fmt"
	"math"
	"slices"
	"testing"

	"hearsay/api"
	"hearsay/past"
	"hearsay/vector"
)

// orders is all orders of a short list.
func orders[T any](list []T) [][]T {
	if len(list) == 0 {
		return [][]T{nil}
	}
	var all [][]T
	for i, x := range list {
		for _, rest := range orders(slices.Delete(slices.Clone(list), i, i+1)) {
			all = append(all, append([]T{x}, rest...))
		}
	}
	return all
}

// wantTexts holds the text and the members of a closed set against what they must be.
func wantTexts(t *testing.T, ops []api.Op, text string, members ...int) {
	t.Helper()
	both(t, ops)
	if got, err := past.Text(ops); got != text || err != api.OK {
		t.Errorf("Text(%s): %q, error %d; want %q", words(ops), got, int(err), text)
	}
	if got, err := past.Members(ops); !slices.Equal(got, members) || err != api.OK {
		t.Errorf("Members(%s): %v, error %d; want %v", words(ops), got, int(err), members)
	}
}

// wantOrder holds the order of a closed set against times and sites, one behind the other.
func wantOrder(t *testing.T, ops []api.Op, numbers ...int) {
	t.Helper()
	both(t, ops)
	var want []api.ID
	for pair := range slices.Chunk(numbers, 2) {
		want = append(want, id(pair[0], pair[1]))
	}
	if got, err := past.Order(ops); !slices.Equal(got, want) || err != api.OK {
		t.Errorf("Order(%s): %v, error %d; want %v", words(ops), got, int(err), want)
	}
}

// wantNodesAre holds the elements of a closed set behind a base against what they must be: each its rune and its state.
func wantNodesAre(t *testing.T, ops []api.Op, base api.Vector, want ...string) {
	t.Helper()
	nodes, err := withBase(t, ops, base)
	var got []string
	for _, n := range nodes {
		got = append(got, fmt.Sprintf("%c %s", n.Rune, []string{"", "shown", "deleted", "settled"}[n.State]))
	}
	if err != api.OK || !slices.Equal(got, want) {
		t.Errorf("Nodes(%s, %v): %q, error %d; want %q", words(ops), base, got, int(err), want)
	}
}

// wantBaseErr holds the error of Nodes against what it must be.
func wantBaseErr(t *testing.T, ops []api.Op, base api.Vector, want api.Errno) {
	t.Helper()
	if nodes, err := withBase(t, ops, base); err != want || len(nodes) > 0 {
		t.Errorf("Nodes(%s, %v): %v, error %d; want error %d", words(ops), base, nodes, int(err), int(want))
	}
}

// The operations of the chapter's examples.

func exampleA() api.Op { return insert(dot(1, 2), 1, api.ID{}, "ab") }

func exampleB() api.Op { return remove(dot(1, 3), runs(run(1, 1, 1))) }

func exampleC() api.Op { return insert(dot(1, 4), 3, id(2, 1), "c") }

func example() []api.Op { return []api.Op{exampleC(), exampleB(), exampleA(), begin()} }

// TestExamples: the rows of the chapter's examples.
func TestExamples(t *testing.T) {
	wantErr(t, api.OK)
	wantErr(t, api.ErrClosed, exampleA())
	wantErr(t, api.ErrExists, begin(), begin())
	wantErr(t, api.ErrOp, api.Op{Kind: 9}, begin(), begin())
	wantErr(t, api.OK, example()...)
	wantTexts(t, example(), "bc", 1)
	wantOrder(t, example(), 1, 1, 2, 1, 3, 1)
	wantNodesAre(t, example(), nil, "a deleted", "b shown", "c shown")
	wantNodesAre(t, example(), vec(1, 3), "a settled", "b shown", "c shown")
	wantBaseErr(t, example(), vec(1, 9), api.ErrClosed)
	upto := past.Upto(example(), vec(1, 2))
	if want := []api.Op{exampleA(), begin()}; !slices.EqualFunc(upto, want, same) {
		t.Errorf("Upto: %s; want %s", words(upto), words(want))
	}
	wantTexts(t, upto, "ab", 1)
	wantTexts(t, append(example(), insert(dot(2, 1), 3, id(1, 1), "x", 1, 2)), "xbc", 1)
}

// wantUptoAre holds those operations that a vector has against what they must be, by their places.
func wantUptoAre(t *testing.T, ops []api.Op, v api.Vector, places ...int) {
	t.Helper()
	var want []api.Op
	for _, i := range places {
		want = append(want, ops[i])
	}
	for range 2 {
		if got := past.Upto(ops, v); !slices.EqualFunc(got, want, same) {
			t.Errorf("Upto(%s; %v): %s; want %s", words(ops), v, words(got), words(want))
		}
	}
}

// TestUpto: P24.2: vectors that have all, some and none, and sites and numbers that no operation has.
func TestUpto(t *testing.T) {
	ops := append(example(), leave(dot(2, 1)), insert(dot(2, 2), 9, api.ID{}, "x"), leave(dot(16, 1), 2, 2))
	wantUptoAre(t, nil, nil)
	wantUptoAre(t, nil, vec(1, 9))
	wantUptoAre(t, []api.Op{}, api.Vector{})
	wantUptoAre(t, ops, nil)
	wantUptoAre(t, ops, api.Vector{})
	wantUptoAre(t, ops, vec(1, 4, 2, 2, 16, 1), 0, 1, 2, 3, 4, 5, 6)
	wantUptoAre(t, ops, vec(1, api.MaxSeq, 2, 3, 3, 3, 16, api.MaxSeq), 0, 1, 2, 3, 4, 5, 6)
	wantUptoAre(t, ops, vec(1, 3), 1, 2, 3)
	wantUptoAre(t, ops, vec(1, 1), 3)
	wantUptoAre(t, ops, vec(2, 1), 4)
	wantUptoAre(t, ops, vec(16, 9), 6)
	wantUptoAre(t, ops, vec(3, 1, 15, api.MaxSeq))
	wantUptoAre(t, ops, vec(1, 2, 2, 1), 2, 3, 4)
}

// TestUptoNoVector: P24.2: none, if v is no vector, wherever it offends.
func TestUptoNoVector(t *testing.T) {
	ops := append(example(), leave(dot(2, 1)))
	long := slices.Repeat(vec(1, 4), 100)
	for _, v := range []api.Vector{
		vec(2, 1, 1, 4), vec(1, 4, 1, 4), vec(0, 1), vec(-1, 1), vec(1, 4, 17, 1), vec(1, 0), vec(1, -1), vec(1, 4, 2, 0), vec(1, api.MaxSeq+1),
		vec(math.MinInt, 1), vec(1, math.MaxInt), vec(1, 4, 3, 1, 2, 1), vec(0, 0), long,
	} {
		wantUptoAre(t, ops, v)
	}
}

// TestUptoAny: P24.2, W1: of operations that are not closed, that are none, and that are there twice.
func TestUptoAny(t *testing.T) {
	ops := []api.Op{exampleC(), exampleC(), {}, {Dot: dot(1, 2), Kind: 77, Deps: vec(-1, -2), Gone: runs(run(-3, -4, -5)), Text: "\xff", Site: -6, ID: id(-7, -8), Ref: id(-9, -10)}}
	for _, d := range []api.Dot{dot(0, 1), dot(1, 0), dot(17, 1), dot(1, -1), dot(-1, -1), dot(math.MinInt, math.MinInt), dot(math.MaxInt, math.MaxInt), dot(1, math.MaxInt), dot(16, 3)} {
		ops = append(ops, api.Op{Kind: api.OpLeave, Dot: d})
	}
	wantUptoAre(t, ops, vec(1, 4), 0, 1, 3)
	wantUptoAre(t, ops, vec(1, 3), 3)
	wantUptoAre(t, ops, vec(1, api.MaxSeq, 16, api.MaxSeq), 0, 1, 3, 12)
	wantUptoAre(t, ops, vec(16, 2))
	wantUptoAre(t, ops, nil)
	wantUptoAre(t, ops, vec(17, 1))
	both(t, ops, vec(1, 4), vec(17, 1))
}

// TestRefusedInserts: P24.3: inserts that the document refuses are without effect, among good ones: their place is not there, or one of their identifiers is there already.
func TestRefusedInserts(t *testing.T) {
	ops := []api.Op{
		insert(dot(1, 1), 2, api.ID{}, "ab"),
		insert(dot(1, 2), 5, id(4, 1), "n"),   // behind what is not there
		insert(dot(1, 3), 3, id(2, 1), "xyz"), // 3.1 is there already
		insert(dot(1, 4), 1, api.ID{}, "xyz"), // 2.1 is there already
		insert(dot(1, 5), 6, id(5, 1), "n"),   // behind one that was refused
		insert(dot(1, 6), 5, id(4, 2), "n"),   // behind another site's of that time
		insert(dot(1, 7), 4, id(3, 1), "cd"),
		insert(dot(1, 8), 9, id(5, 1), "e"),
	}
	wantTexts(t, ops, "abcde")
	wantOrder(t, ops, 2, 1, 3, 1, 4, 1, 5, 1, 9, 1)
	// Deleted elements are there: what is laid behind them stands, and what has their identifiers is refused.
	ops = append(ops, remove(dot(1, 9), runs(run(3, 1, 2))), insert(dot(1, 10), 4, api.ID{}, "x"), insert(dot(1, 11), 10, id(4, 1), "y"))
	wantTexts(t, ops, "ayde")
	wantOrder(t, ops, 2, 1, 3, 1, 4, 1, 10, 1, 5, 1, 9, 1)
}

// TestRow: P24.3: what goes first is what the row says: the least dot of those that can go, not what a lesser one waits for.
func TestRow(t *testing.T) {
	one, two, three := insert(dot(1, 1), 9, api.ID{}, "a", 3, 1), insert(dot(2, 1), 2, id(1, 3), "b"), insert(dot(3, 1), 1, api.ID{}, "c")
	// 2.1 goes ahead of 3.1, though 1.1 waits for that: so its place is not there as yet.
	for _, ops := range orders([]api.Op{one, two, three}) {
		wantTexts(t, ops, "ac")
	}
	// 2.1 waits for 3.1, which 4.1 does not; 1.1 goes as soon as it can.
	four := insert(dot(4, 1), 3, id(2, 2), "d")
	for _, ops := range orders([]api.Op{one, insert(dot(2, 1), 2, id(1, 3), "b", 3, 1), three, four}) {
		wantTexts(t, ops, "acbd")
	}
	one = insert(dot(1, 1), 2, id(1, 4), "n", 3, 1)
	for _, ops := range orders([]api.Op{one, three, insert(dot(4, 1), 1, api.ID{}, "d"), insert(dot(1, 2), 2, id(1, 3), "e")}) {
		wantTexts(t, ops, "dce")
	}
	// A delete ahead of the insert of what it names deletes nothing; nor does it lie in wait.
	for _, ops := range orders([]api.Op{remove(dot(1, 1), runs(run(1, 2, 2))), insert(dot(2, 1), 1, api.ID{}, "abc"), remove(dot(3, 1), runs(run(3, 2, 1)))}) {
		wantTexts(t, ops, "ab")
	}
	wantTexts(t, []api.Op{
		remove(dot(1, 1), runs(run(1, 2, 9))), insert(dot(1, 2), 9, api.ID{}, "x"), remove(dot(1, 3), runs(run(8, 2, 2), run(9, 1, 1))),
		insert(dot(2, 1), 3, api.ID{}, "abc"), remove(dot(2, 2), runs(run(4, 2, 1))), insert(dot(2, 3), 6, api.ID{}, "defg"),
	}, "defgac")
}

// TestRowIs: the Words: the row is yielded as it is said, an end to it whenever it is told to stop, and anew each time.
func TestRowIs(t *testing.T) {
	ops := []api.Op{
		insert(dot(1, 1), 9, api.ID{}, "a", 3, 1), leave(dot(2, 1)), leave(dot(3, 1), 16, 2), leave(dot(16, 1)), leave(dot(16, 2)),
		leave(dot(1, 2)), leave(dot(1, 3), 3, 2), leave(dot(3, 2)), leave(dot(5, 1), 6, 1), leave(dot(6, 1), 5, 1), leave(dot(4, 1), 5, 1), leave(dot(5, 2)),
	}
	want := []api.Dot{dot(2, 1), dot(16, 1), dot(16, 2), dot(3, 1), dot(1, 1), dot(1, 2), dot(3, 2), dot(1, 3)}
	never := []api.Dot{dot(4, 1), dot(5, 1), dot(5, 2), dot(6, 1)}
	all := slices.Concat(want, never)
	row := past.Row(ops)
	for n := range len(all) + 2 {
		var got []api.Dot
		row(func(o api.Op, went bool) bool {
			got = append(got, o.Dot)
			if went != (len(got) <= len(want)) {
				t.Errorf("%v: %v", o.Dot, went)
			}
			return len(got) < n
		})
		if !slices.Equal(got, all[:min(max(n, 1), len(all))]) {
			t.Errorf("told to stop at %d: %v", n, got)
		}
	}
}

// TestDeletes: P24.3, P24.5: of what is not there, of what is deleted already, of one element twice.
func TestDeletes(t *testing.T) {
	ops := []api.Op{insert(dot(1, 1), 1, api.ID{}, "abcd"), remove(dot(1, 2), runs(run(1, 2, api.MaxTime), run(2, 1, 1), run(9, 1, 3))), remove(dot(1, 3), runs(run(2, 1, 2)))}
	wantTexts(t, ops, "ad")
	wantOrder(t, ops, 1, 1, 2, 1, 3, 1, 4, 1)
	wantNodesAre(t, ops, nil, "a shown", "b deleted", "c deleted", "d shown")
	wantNodesAre(t, ops, vec(1, 2), "a shown", "b settled", "c deleted", "d shown")
	wantNodesAre(t, ops, vec(1, 3), "a shown", "b settled", "c settled", "d shown")
	// Two that did not know of one another; the base has the one, or the other.
	ops = append(ops, remove(dot(2, 1), runs(run(3, 1, 2)), 1, 1), remove(dot(3, 1), runs(run(1, 1, api.MaxTime)), 1, 1))
	wantTexts(t, ops, "")
	wantNodesAre(t, ops, nil, "a deleted", "b deleted", "c deleted", "d deleted")
	wantNodesAre(t, ops, vec(1, 1, 2, 1), "a deleted", "b deleted")
	wantNodesAre(t, ops, vec(1, 2, 2, 1), "a deleted")
	wantNodesAre(t, ops, vec(1, 1, 3, 1))
	wantTexts(t, []api.Op{remove(dot(1, 1), runs(run(1, 1, 1)))}, "")
	wantNodesAre(t, []api.Op{remove(dot(1, 1), runs(run(1, 1, 1)))}, vec(1, 1))
}

// TestMembers: P24.4: joins and leaves in each order, of one site, of many, again after leaving, of a site that never joined.
func TestMembers(t *testing.T) {
	wantTexts(t, nil, "")
	wantTexts(t, []api.Op{join(dot(5, 1), 3)}, "", 3)
	wantTexts(t, []api.Op{leave(dot(5, 1))}, "")
	for _, ops := range orders([]api.Op{begin(), join(dot(1, 2), 2), join(dot(2, 1), 16, 1, 2), join(dot(1, 3), 7)}) {
		wantTexts(t, ops, "", 1, 2, 7, 16)
	}
	for _, ops := range orders([]api.Op{begin(), join(dot(1, 2), 2), leave(dot(2, 1), 1, 2), join(dot(1, 3), 2), join(dot(1, 4), 2, 2, 1)}) {
		wantTexts(t, ops, "", 1)
	}
	// A site leaves ahead of its being let in, and the founder itself.
	for _, ops := range orders([]api.Op{leave(dot(2, 1)), begin(), join(dot(1, 2), 2, 2, 1), leave(dot(1, 3))}) {
		wantTexts(t, ops, "")
	}
	// One that another one lets in again; one that leaves twice; one that was never let in.
	for _, ops := range orders([]api.Op{begin(), join(dot(1, 2), 3), leave(dot(3, 1)), leave(dot(3, 2)), leave(dot(9, 1))}) {
		wantTexts(t, ops, "", 1)
	}
	var all []api.Op
	var sites []int
	for site := 1; site <= api.MaxSites; site++ {
		all = append(all, join(dot(site, 1), api.MaxSites+1-site))
		sites = append(sites, site)
	}
	wantTexts(t, all, "", sites...)
	wantTexts(t, append(all, leave(dot(4, 2)), leave(dot(16, 2))), "", slices.DeleteFunc(slices.Clone(sites), func(site int) bool { return site == 4 || site == 16 })...)
}

// TestBases: P24.5: a base that is no vector, that says of what is not there, or of operations that are not closed.
func TestBases(t *testing.T) {
	ops := append(example(), insert(dot(2, 1), 9, id(2, 1), "x", 1, 2), leave(dot(2, 2), 1, 4))
	for _, base := range []api.Vector{nil, vec(1, 1), vec(1, 2), vec(1, 4), vec(1, 2, 2, 1), vec(1, 3, 2, 1), vec(1, 4, 2, 2)} {
		if _, err := withBase(t, ops, base); err != api.OK {
			t.Errorf("base %v: error %d", base, int(err))
		}
	}
	for _, base := range []api.Vector{vec(0, 1), vec(17, 1), vec(-1, 0), vec(1, 2, 17, 0), vec(math.MinInt, 5)} {
		wantBaseErr(t, ops, base, api.ErrArg)
	}
	for _, base := range []api.Vector{vec(1, 0), vec(1, -1), vec(1, 2, 2, 0), vec(1, api.MaxSeq+1), vec(16, math.MaxInt)} {
		wantBaseErr(t, ops, base, api.ErrForm)
	}
	for _, base := range []api.Vector{vec(2, 1, 1, 2), vec(1, 2, 1, 2), vec(1, 2, 3, 1, 2, 1)} {
		wantBaseErr(t, ops, base, api.ErrOrder)
	}
	// 1.5, 2.3 and 16.1 are not there; 2.1 has 1.2, and 2.2 has 1.4.
	for _, base := range []api.Vector{vec(1, 5), vec(1, 4, 2, 3), vec(1, 2, 16, 1), vec(1, api.MaxSeq), vec(2, 1), vec(1, 1, 2, 1), vec(1, 3, 2, 2)} {
		wantBaseErr(t, ops, base, api.ErrClosed)
	}
}

// TestBaseErrorsInOrder: P24.5, W4: each pair of the errors: Closed's, Check's, and the one that the base says of what is not there, or is not closed.
func TestBaseErrorsInOrder(t *testing.T) {
	good := slices.Clip(append(example(), leave(dot(2, 1), 1, 2)))
	closed := map[api.Errno][]api.Op{
		api.ErrOp: append(good, api.Op{Kind: 9}), api.ErrExists: append(good, begin()), api.ErrClosed: append(good, leave(dot(3, 1), 4, 1)), api.OK: good,
	}
	bases := map[api.Errno][]api.Vector{
		api.ErrArg:    {vec(0, 1), vec(1, 9, 17, 1), vec(2, 1, 17, 1)},
		api.ErrForm:   {vec(1, 0), vec(1, 9, 2, 0), vec(2, 1, 3, 0)},
		api.ErrOrder:  {vec(1, 1, 1, 1), vec(3, 1, 2, 1), vec(2, 1, 2, 9)},
		api.ErrClosed: {vec(1, 9), vec(2, 1), vec(2, 2), vec(1, 1, 2, 1), vec(9, 1)},
		api.OK:        {nil, vec(1, 3)},
	}
	for first, ops := range closed {
		for second, list := range bases {
			for _, base := range list {
				want := first
				if first == api.OK {
					want = second
				}
				if _, err := withBase(t, ops, base); err != want {
					t.Errorf("Nodes(%s, %v): error %d; want %d", words(ops), base, int(err), int(want))
				}
			}
		}
	}
	// A base that is no vector is one whatever the operations are.
	wantBaseErr(t, nil, vec(0, 1), api.ErrArg)
	wantBaseErr(t, nil, vec(1, 1), api.ErrClosed)
	wantNodesAre(t, nil, nil)
}

// TestLeftOut: P24.5: settled ones are left out behind which none stands, again and again; deleted ones never are.
func TestLeftOut(t *testing.T) {
	ops := []api.Op{insert(dot(1, 1), 1, api.ID{}, "abcde"), remove(dot(1, 2), runs(run(4, 1, 2)))}
	wantNodesAre(t, ops, vec(1, 1), "a shown", "b shown", "c shown", "d deleted", "e deleted")
	wantNodesAre(t, ops, vec(1, 2), "a shown", "b shown", "c shown")
	// A chain that is settled from its end on, and one whose end is not.
	ops = append(ops, remove(dot(1, 3), runs(run(1, 1, 3))))
	wantNodesAre(t, ops, vec(1, 2), "a deleted", "b deleted", "c deleted")
	wantNodesAre(t, ops, vec(1, 3))
	ops = []api.Op{insert(dot(1, 1), 1, api.ID{}, "abc"), remove(dot(1, 2), runs(run(1, 1, 2))), remove(dot(1, 3), runs(run(3, 1, 1)))}
	wantNodesAre(t, ops, vec(1, 2), "a settled", "b settled", "c deleted")
	wantNodesAre(t, ops, vec(1, 3))
	// A shown one stands behind a settled one; what else stands behind it is left out.
	ops = []api.Op{insert(dot(1, 1), 1, api.ID{}, "ab"), insert(dot(1, 2), 4, id(1, 1), "xy"), insert(dot(1, 3), 9, id(2, 1), "z"), remove(dot(1, 4), runs(run(1, 1, 2), run(4, 1, 2)))}
	wantTexts(t, ops, "z")
	wantOrder(t, ops, 1, 1, 4, 1, 5, 1, 2, 1, 9, 1)
	wantNodesAre(t, ops, vec(1, 3), "a deleted", "x deleted", "y deleted", "b deleted", "z shown")
	wantNodesAre(t, ops, vec(1, 4), "a settled", "b settled", "z shown")
	// The one behind which something comes later is settled; the refs stay.
	nodes, _ := withBase(t, ops, vec(1, 4))
	want := []api.Node{{ID: id(1, 1), Rune: 'a', State: api.StateSettled}, {ID: id(2, 1), Ref: id(1, 1), Rune: 'b', State: api.StateSettled}, {ID: id(9, 1), Ref: id(2, 1), Rune: 'z', State: api.StateShown}}
	if !slices.Equal(nodes, want) {
		t.Errorf("%v; want %v", nodes, want)
	}
}

// TestSettledAlone: P24.5, P24.8: what is shown is not settled, though a delete of the base names it that came too early; what another one deletes then is.
func TestSettledAlone(t *testing.T) {
	ops := []api.Op{remove(dot(1, 1), runs(run(1, 2, 2))), insert(dot(2, 1), 1, api.ID{}, "abc")}
	wantNodesAre(t, ops, vec(1, 1), "a shown", "b shown", "c shown")
	wantNodesAre(t, ops, vec(1, 1, 2, 1), "a shown", "b shown", "c shown")
	ops = append(ops, remove(dot(3, 1), runs(run(2, 2, 2))))
	wantNodesAre(t, ops, nil, "a shown", "b deleted", "c deleted")
	wantNodesAre(t, ops, vec(1, 1), "a shown", "b settled", "c deleted")
	wantNodesAre(t, ops, vec(1, 1, 3, 1), "a shown")
}

// TestLong: P24.3 to P24.5, W1: sites that take turns, each of which knows of all that came ahead: long chains of needs, of elements and of deletes.
func TestLong(t *testing.T) {
	var ops []api.Op
	var have api.Vector
	want := ""
	for i := range 30000 {
		site := api.MaxSites - i%api.MaxSites
		o := insert(dot(site, i/api.MaxSites+1), i+1, api.ID{}, "a")
		switch {
		case i%3 == 2:
			// What came just ahead of it goes.
			before := ops[i-1].ID
			o = remove(o.Dot, runs(api.Run{ID: before, Count: 1}))
		case i > 0 && ops[i-1].Kind == api.OpInsert:
			o.Ref = ops[i-1].ID
		case i > 0:
			o.Ref = ops[i-3].ID
			want += "a"
		}
		o.Deps = slices.Clone(have)
		have = vector.Merge(have, api.Vector{o.Dot})
		ops = append(ops, o)
	}
	slices.Reverse(ops)
	want += "a"
	text, err := past.Text(ops)
	if text != want || err != api.OK {
		t.Errorf("a text of %d, error %d; want %d", len(text), int(err), len(want))
	}
	order, err := past.Order(ops)
	if len(order) != 20000 || err != api.OK {
		t.Errorf("%d elements, error %d", len(order), int(err))
	}
	nodes, err := past.Nodes(ops, have)
	if len(nodes) != len(want) || err != api.OK {
		t.Errorf("%d are kept, error %d", len(nodes), int(err))
	}
	if _, err = past.Members(ops[1:]); err != api.OK {
		t.Errorf("without the last one: error %d", int(err))
	}
	if _, err = past.Members(ops[:29999]); err != api.ErrClosed {
		t.Errorf("without the first one: error %d", int(err))
	}
}
