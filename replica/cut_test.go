package replica_test

import (
	"fmt"
	"slices"
	"testing"

	"hearsay/api"
)

// keeping is the Config of the examples, but for Keep.
func keeping(n int) api.Config {
	few := c
	few.Keep = n
	return few
}

// wantLog holds how long the log is, and what the base has, against what is written out.
func (b both) wantLog(t *testing.T, about any, log int, base api.Vector) {
	t.Helper()
	if s := b.r.Sight(); s.Log != log || !slices.Equal(s.Base, base) {
		t.Fatalf("%v: log %d, base %v; want %d, %v", about, s.Log, s.Base, log, base)
	}
}

// TestKeepAlone: P18.11: of a site without others the log is cut whenever it is longer than Keep, to the whole vector.
func TestKeepAlone(t *testing.T) {
	for _, keep := range []int{0, 1, 2, 3, 7, 1 << 20} {
		a := found(t, 1, keeping(keep))
		log, base := 1, 0
		for i := range 30 {
			// What is not an edit, or is refused, tidies nothing up.
			a.mustTick(t, 1)
			a.draw(t, 2)
			a.insert(t, -1, "x")
			a.delete(t, 0, -1)
			a.join(t, 1)
			a.receive(t, []byte("nothing"))
			a.wantLog(t, i, log, v(1, base))
			if i%3 < 2 {
				a.mustInsert(t, a.r.Len(), "ab")
			} else {
				a.mustDelete(t, 0, 1)
			}
			if log++; log > keep {
				log, base = 0, base+log
			}
			a.wantLog(t, i, log, v(1, base))
		}
		a.mustLeave(t)
	}
}

// TestKeepJoinLeave: P18.4, P18.11: Join and Leave tidy up too: the one lets in somebody of whom nothing was heard, so that nothing more is cut; the other one leaves the others to say what they have.
func TestKeepJoinLeave(t *testing.T) {
	a := found(t, 1, keeping(0))
	a.mustInsert(t, 0, "x")
	a.wantLog(t, "alone", 0, v(1, 2))
	a.mustJoin(t, 2)
	a.wantLog(t, "with somebody unheard of", 1, v(1, 2))
	a.mustInsert(t, 0, "y")
	a.wantLog(t, "with somebody unheard of", 2, v(1, 2))
	heardOf(t, a, 2, 3, v(1, 3))
	a.wantLog(t, "that one has one of two", 1, v(1, 3))
	a.mustLeave(t)
	a.wantLog(t, "leaving", 2, v(1, 3))
	heardOf(t, a, 2, 3, v(1, 4))
	a.wantLog(t, "that one has two of three", 1, v(1, 4))
	heardOf(t, a, 2, 3, v(1, 5))
	a.wantLog(t, "that one has all", 0, v(1, 5))

	alone := found(t, 1, keeping(0))
	alone.mustLeave(t)
	alone.wantLog(t, "nobody is left", 0, v(1, 2))
}

// TestFrontier: P18.11: the log is cut to what all members have, by what was heard of them and is covered here.
func TestFrontier(t *testing.T) {
	a := found(t, 1, keeping(4))
	a.mustJoin(t, 2)
	a.mustJoin(t, 3)
	a.mustInsert(t, 0, "a")
	a.wantLog(t, "as many as Keep says", 4, nil)
	heardOf(t, a, 2, 3, v(1, 4))
	heardOf(t, a, 3, 3, v(1, 4))
	a.wantLog(t, "as many as Keep says, and heard of all", 4, nil)
	heardOf(t, a, 3, 3, v(1, 4, 2, 2)) // more than is known here: the earlier row still counts
	a.mustInsert(t, 0, "b")
	a.wantLog(t, "one more", 1, v(1, 4))
	a.mustInsert(t, 0, "c")
	a.mustInsert(t, 0, "d")
	a.mustInsert(t, 0, "e")
	a.wantLog(t, "up to Keep again", 4, v(1, 4))
	heardOf(t, a, 2, 3, v(1, 8))
	heardOf(t, a, 3, 3, v(1, 7))
	a.mustInsert(t, 0, "f")
	a.wantLog(t, "of 3 the last row that was covered counts", 5, v(1, 4))
	// What 3 had of 2 comes: its row is covered, and counts.
	two := []api.Op{
		{Dot: api.Dot{Site: 2, Seq: 1}, Deps: v(1, 4), Kind: api.OpInsert, ID: api.ID{Time: 9, Site: 2}, Text: "x"},
		{Dot: api.Dot{Site: 2, Seq: 2}, Deps: v(1, 4, 2, 1), Kind: api.OpInsert, ID: api.ID{Time: 10, Site: 2}, Text: "y"},
	}
	a.mustReceive(t, encoded(t, api.Frame{Kind: api.FrameOps, From: 2, To: 1, Answer: true, Have: v(1, 8, 2, 2), Ops: two}), 0)
	a.wantLog(t, "the row of 3 is covered", 2, v(1, 7, 2, 2))
	var dots []api.Dot
	for _, o := range a.r.Image().Log {
		dots = append(dots, o.Dot)
	}
	if !slices.Equal(dots, []api.Dot{{Site: 1, Seq: 8}, {Site: 1, Seq: 9}}) {
		t.Errorf("%v", dots)
	}
	// One that is no member has no say.
	heardOf(t, a, 4, 3, nil)
	a.mustJoin(t, 5)
	heardOf(t, a, 2, 3, v(1, 10, 2, 2))
	heardOf(t, a, 3, 3, v(1, 10, 2, 2))
	a.wantLog(t, "no more than Keep", 3, v(1, 7, 2, 2))
	a.mustInsert(t, 0, "g")
	a.mustInsert(t, 0, "h")
	a.wantLog(t, "5 was not heard of", 5, v(1, 7, 2, 2))
	heardOf(t, a, 5, 3, v(1, 9, 2, 2))
	a.wantLog(t, "5 was heard of", 3, v(1, 9, 2, 2))
}

// TestSettles: P18.11, P0.5: what was deleted is settled as soon as the delete is cut off, and forgotten, where nothing stands behind it.
func TestSettles(t *testing.T) {
	a := found(t, 1, keeping(3))
	a.mustJoin(t, 2)
	a.mustInsert(t, 0, "abc")
	heardOf(t, a, 2, 3, v(1, 3))
	states := func() string {
		s := ""
		for _, n := range a.r.Image().Nodes {
			s += fmt.Sprintf("%c%d ", n.Rune, n.State)
		}
		return s
	}
	want := func(about, s string, log int, base api.Vector) {
		t.Helper()
		a.wantLog(t, about, log, base)
		if got := states(); got != s {
			t.Fatalf("%s: %s; want %s", about, got, s)
		}
	}
	a.mustDelete(t, 1, 1)
	want("the delete is not cut off", "a1 b2 c1 ", 1, v(1, 3))
	a.mustInsert(t, 1, "d")
	a.mustInsert(t, 2, "e")
	heardOf(t, a, 2, 3, v(1, 5))
	want("all have the delete, but the log is short", "a1 d1 e1 b2 c1 ", 3, v(1, 3))
	a.mustDelete(t, 2, 1)
	want("b has c behind it", "a1 d1 e2 b3 c1 ", 2, v(1, 5))
	a.mustDelete(t, 2, 1)
	want("both deletes of later are kept", "a1 d1 e2 b3 c2 ", 3, v(1, 5))
	heardOf(t, a, 2, 3, v(1, 8))
	want("no more than Keep", "a1 d1 e2 b3 c2 ", 3, v(1, 5))
	a.mustInsert(t, 0, "f")
	want("c goes, then b; e goes", "f1 a1 d1 ", 1, v(1, 8))
}

// TestCollects: P18.7: the document is collected where the log was cut, also of nothing; else it is not.
func TestCollects(t *testing.T) {
	image := api.Image{
		Vector: v(1, 3), Base: v(1, 2), Clock: 5, Joined: []int{1, 2, 3}, Epoch: 3,
		Log: []api.Op{{Dot: api.Dot{Site: 1, Seq: 3}, Deps: v(1, 2), Kind: api.OpJoin, Site: 3}},
		Nodes: []api.Node{
			{ID: api.ID{Time: 1, Site: 1}, Rune: 'a', State: api.StateShown},
			{ID: api.ID{Time: 2, Site: 1}, Ref: api.ID{Time: 1, Site: 1}, Rune: 'b', State: api.StateSettled},
			{ID: api.ID{Time: 3, Site: 1}, Ref: api.ID{Time: 2, Site: 1}, Rune: 'c', State: api.StateSettled},
		},
	}
	for keep := range 4 {
		b := woken(t, keeping(keep), image)
		kept := func(about string, want int) {
			t.Helper()
			if s := b.r.Sight(); s.Kept != want || !slices.Equal(s.Base, v(1, 2)) {
				t.Fatalf("Keep %d, %s: %+v; want %d", keep, about, s, want)
			}
		}
		first := 3
		if keep < 1 {
			first = 1 // 3 was not heard of, so that nothing was cut
		}
		kept("taken in", first)
		b.mustJoin(t, 4)
		if keep < 2 {
			first = 1
		}
		kept("a join", first)
		b.mustTick(t, 1)
		b.mustDraw(t, 1)
		heardOf(t, b, 1, 3, v(1, 2))
		kept("nothing more in the log", first)
		b.mustInsert(t, 0, "x")
		if keep < 3 {
			first = 1
		}
		kept("an insert", first+1)
	}
}

// TestCutAtImage: P18.7: an image that is longer than Keep is cut as soon as it was taken in, if all have it.
func TestCutAtImage(t *testing.T) {
	a := found(t, 1, c)
	a.mustJoin(t, 2)
	a.mustInsert(t, 0, "abc")
	a.mustDelete(t, 2, 1)
	image := a.mustDraw(t, 2)
	for keep := range 6 {
		b := idle(t, 2, keeping(keep))
		b.mustReceive(t, image, 1)
		b.wantText(t, "ab")
		if keep < 4 {
			b.wantLog(t, keep, 0, v(1, 4))
		} else {
			b.wantLog(t, keep, 4, nil)
		}
		want := 3
		if keep < 4 {
			want = 2
		}
		if s := b.r.Sight(); s.Kept != want {
			t.Errorf("Keep %d: %+v", keep, s)
		}
	}
}
