package past_test

import (
	"math"
	"slices"
	"strings"
	"testing"

	"hearsay/api"
	"hearsay/past"
)

// bad is operations that chapter 8's Check refuses, each for one thing.
func bad() []api.Op {
	turned := func(o api.Op, turn func(o *api.Op)) api.Op {
		turn(&o)
		return o
	}
	lays := func() api.Op { return insert(dot(1, 2), 5, id(4, 3), "hé") }
	deletes := func() api.Op { return remove(dot(1, 2), runs(run(3, 1, 2), run(4, 2, 1))) }
	joins := func() api.Op { return join(dot(2, 1), 2) }
	leaves := func() api.Op { return leave(dot(1, 2)) }
	many := make([]api.Run, api.MaxGone+1)
	for i := range many {
		many[i] = run(2*i+1, 1, 1)
	}
	return []api.Op{
		{}, {Kind: 9}, {Kind: -1},
		turned(leaves(), func(o *api.Op) { o.Kind = 5 }),
		turned(leaves(), func(o *api.Op) { o.Dot.Site = 0 }),
		turned(leaves(), func(o *api.Op) { o.Dot.Site = 17 }),
		turned(leaves(), func(o *api.Op) { o.Dot.Site = math.MinInt }),
		turned(joins(), func(o *api.Op) { o.Dot.Seq = 0 }),
		turned(joins(), func(o *api.Op) { o.Dot.Seq = math.MaxInt }),
		turned(leaves(), func(o *api.Op) { o.Dot.Seq, o.Deps = api.MaxSeq+1, vec(1, api.MaxSeq) }),
		turned(leaves(), func(o *api.Op) { o.Deps = nil }),
		turned(leaves(), func(o *api.Op) { o.Deps = vec(1, 2) }),
		turned(leaves(), func(o *api.Op) { o.Deps = vec(2, 1, 1, 1) }),
		turned(leaves(), func(o *api.Op) { o.Deps = vec(0, 1, 1, 1) }),
		turned(leaves(), func(o *api.Op) { o.Deps = vec(1, 1, 2, 0) }),
		turned(leaves(), func(o *api.Op) { o.Deps = vec(1, 1, 1, 1) }),
		turned(lays(), func(o *api.Op) { o.Text = "" }),
		turned(lays(), func(o *api.Op) { o.Text = "h\xff" }),
		turned(lays(), func(o *api.Op) { o.Text = strings.Repeat("é", api.MaxText+1) }),
		turned(lays(), func(o *api.Op) { o.ID.Site = 2 }),
		turned(lays(), func(o *api.Op) { o.ID.Time = 0 }),
		turned(lays(), func(o *api.Op) { o.ID.Time = api.MaxTime }),
		turned(lays(), func(o *api.Op) { o.Ref.Time = 5 }),
		turned(lays(), func(o *api.Op) { o.Ref = id(0, 1) }),
		turned(lays(), func(o *api.Op) { o.Ref.Site = 17 }),
		turned(lays(), func(o *api.Op) { o.Gone = runs(run(1, 1, 1)) }),
		turned(lays(), func(o *api.Op) { o.Site = 1 }),
		turned(deletes(), func(o *api.Op) { o.Gone = nil }),
		turned(deletes(), func(o *api.Op) { o.Gone = many }),
		turned(deletes(), func(o *api.Op) { o.Gone = runs(run(4, 2, 1), run(3, 1, 2)) }),
		turned(deletes(), func(o *api.Op) { o.Gone = runs(run(3, 1, 0)) }),
		turned(deletes(), func(o *api.Op) { o.Gone = runs(run(api.MaxTime, 1, 2)) }),
		turned(deletes(), func(o *api.Op) { o.Gone = runs(run(3, 1, 1), run(4, 1, 1)) }),
		turned(deletes(), func(o *api.Op) { o.ID = id(1, 1) }),
		turned(deletes(), func(o *api.Op) { o.Text = "x" }),
		turned(joins(), func(o *api.Op) { o.Site = 0 }),
		turned(joins(), func(o *api.Op) { o.Site = 17 }),
		turned(joins(), func(o *api.Op) { o.Ref = id(1, 1) }),
		turned(leaves(), func(o *api.Op) { o.Site = 1 }),
		turned(leaves(), func(o *api.Op) { o.Text = "x" }),
	}
}

// begin is the operation that a world begins with.
func begin() api.Op { return join(dot(1, 1), 1) }

// TestRefused: P24.1, P24.3, W1: whatever chapter 8's Check refuses, wherever it stands.
func TestRefused(t *testing.T) {
	for _, o := range bad() {
		wantErr(t, api.ErrOp, o)
		wantErr(t, api.ErrOp, begin(), o)
		wantErr(t, api.ErrOp, o, begin())
		wantErr(t, api.ErrOp, begin(), o, leave(dot(1, 2)))
		wantErr(t, api.ErrOp, o, o)
	}
}

// TestClosed: P24.1: no operations, one, and several.
func TestClosed(t *testing.T) {
	wantErr(t, api.OK)
	if past.Closed([]api.Op{}) != api.OK || past.Closed(nil) != api.OK {
		t.Error("no operations are not closed")
	}
	for _, o := range []api.Op{begin(), join(dot(16, 1), 3), leave(dot(2, 1)), insert(dot(3, 1), api.MaxTime, api.ID{}, "é"), remove(dot(4, 1), runs(run(1, 1, api.MaxTime)))} {
		wantErr(t, api.OK, o)
	}
	for _, o := range []api.Op{leave(dot(1, 2)), leave(dot(1, 1), 2, 1), leave(dot(2, 1), 1, 1), leave(dot(16, api.MaxSeq)), leave(dot(2, 1), 16, api.MaxSeq)} {
		wantErr(t, api.ErrClosed, o)
		wantErr(t, api.ErrClosed, o, leave(dot(5, 1)))
	}
	wantErr(t, api.OK, leave(dot(1, 2)), begin())
	wantErr(t, api.OK, leave(dot(2, 1), 1, 1), begin())
	// Of many, each one's lack is found.
	var chain []api.Op
	for seq := range 40 {
		chain = append(chain, leave(dot(3, seq+1)))
	}
	wantErr(t, api.OK, chain...)
	for at := range chain {
		want := api.ErrClosed
		if at == len(chain)-1 {
			want = api.OK
		}
		wantErr(t, want, slices.Delete(slices.Clone(chain), at, at+1)...)
	}
	wantErr(t, api.OK, append(chain, leave(dot(2, 1), 3, 40))...)
	wantErr(t, api.ErrClosed, append(chain, leave(dot(2, 1), 3, 41))...)
	wantErr(t, api.ErrClosed, append(chain, leave(dot(2, 1), 3, 40, 4, 1))...)
}

// TestTwice: P24.1: two of one dot, alike or not, wherever they stand.
func TestTwice(t *testing.T) {
	wantErr(t, api.ErrExists, begin(), begin())
	wantErr(t, api.ErrExists, begin(), join(dot(1, 1), 2))
	wantErr(t, api.ErrExists, begin(), leave(dot(1, 1)))
	wantErr(t, api.ErrExists, begin(), leave(dot(2, 1)), leave(dot(1, 2)), insert(dot(2, 1), 1, api.ID{}, "x", 1, 1))
	wantErr(t, api.OK, begin(), leave(dot(2, 1)), leave(dot(1, 2)), insert(dot(2, 2), 1, api.ID{}, "x", 1, 1))
}

// TestItself: P24.1: an operation that says of itself is none; so is one that says of its own ones beside a gap. What says of an operation beside a gap is none that has all.
func TestItself(t *testing.T) {
	o := leave(dot(1, 1))
	o.Deps = vec(1, 1)
	wantErr(t, api.ErrOp, o)
	o = leave(dot(1, 3))
	wantErr(t, api.ErrClosed, begin(), o)
	wantErr(t, api.ErrClosed, begin(), o, leave(dot(2, 1), 1, 3))
	wantErr(t, api.ErrClosed, begin(), leave(dot(2, 1), 1, 3))
	wantErr(t, api.OK, begin(), leave(dot(1, 2)), o, leave(dot(2, 1), 1, 3))
	o.Deps = vec(1, 1)
	wantErr(t, api.ErrOp, begin(), o)
}

// TestOneAnother: P24.1, P24.3, P24.4: operations that need one another are closed, but never go: what they, and what needs them, would do is not done. Joins and leaves among them stand among the operations for all that.
func TestOneAnother(t *testing.T) {
	one := insert(dot(1, 1), 1, api.ID{}, "a", 2, 1)
	two := join(dot(2, 1), 2, 1, 1)
	three := insert(dot(3, 1), 1, api.ID{}, "c", 4, 1)
	four := insert(dot(4, 1), 7, api.ID{}, "d")
	five := insert(dot(2, 2), 8, api.ID{}, "e")
	wantErr(t, api.OK, one, two)
	for _, ops := range orders([]api.Op{one, two, three, four, five}) {
		wantErr(t, api.OK, ops...)
		wantTexts(t, ops, "dc", 2)
	}
	wantTexts(t, []api.Op{one, two, leave(dot(2, 2)), four}, "d")
	// A ring of all sites, and of operations that are not the first ones.
	var ring []api.Op
	for site := 1; site <= api.MaxSites; site++ {
		ring = append(ring, insert(dot(site, 1), 1, api.ID{}, "x"))
		o := insert(dot(site, 2), 2, id(1, site), "y", site+1, 2)
		if site == api.MaxSites {
			o = insert(dot(site, 2), 2, id(1, site), "y", 1, 2)
		}
		ring = append(ring, o)
	}
	wantErr(t, api.OK, ring...)
	wantTexts(t, ring, strings.Repeat("x", api.MaxSites))
	// The delete 1.1 and the insert 2.1 need one another: the base may have both, and the one names what 3.1 lays.
	ring = []api.Op{remove(dot(1, 1), runs(run(1, 3, 1)), 2, 1), leave(dot(2, 1), 1, 1), insert(dot(3, 1), 1, api.ID{}, "x")}
	wantTexts(t, ring, "x")
	for _, base := range []api.Vector{nil, vec(1, 1, 2, 1), vec(3, 1), vec(1, 1, 2, 1, 3, 1)} {
		wantNodesAre(t, ring, base, "x shown")
	}
	if _, err := withBase(t, ring, vec(1, 1)); err != api.ErrClosed {
		t.Errorf("error %d", int(err))
	}
}

// TestErrorsInOrder: P24.1, W4: two and three errors at once, in each order of the list.
func TestErrorsInOrder(t *testing.T) {
	twice, unclosed, no := leave(dot(2, 1)), leave(dot(1, 5)), api.Op{Kind: 9}
	for _, ops := range orders([]api.Op{begin(), twice, twice, unclosed}) {
		wantErr(t, api.ErrExists, ops...)
	}
	for _, ops := range orders([]api.Op{begin(), twice, twice, no}) {
		wantErr(t, api.ErrOp, ops...)
	}
	for _, ops := range orders([]api.Op{begin(), unclosed, no}) {
		wantErr(t, api.ErrOp, ops...)
	}
	for _, ops := range orders([]api.Op{begin(), twice, unclosed, twice, no}) {
		wantErr(t, api.ErrOp, ops...)
	}
	// The one that is there twice is the one that lacks something, or is none.
	wantErr(t, api.ErrExists, unclosed, unclosed)
	wantErr(t, api.ErrOp, no, no)
}
