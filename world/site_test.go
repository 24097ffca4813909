package world_test

import (
	"math"
	"slices"
	"strings"
	"testing"

	"hearsay/api"
)

// farSites is numbers at which there is no site in rich's world.
var farSites = []int{math.MinInt, -1 << 32, -1<<32 + 1, -2, -1, 0, 7, 16, 17, 255, 257, 1<<32 + 1, 1<<32 + 2, math.MaxInt}

// TestNoSite: P21.2, W4: where there is no site the answer is ErrNone, where it is stopped ErrGone, ahead of all that the site itself would refuse.
func TestNoSite(t *testing.T) {
	b := rich(t)
	at := func(site int) []api.Step {
		return []api.Step{
			insert(site, 0, "x"), insert(site, -1, ""), insert(site, 999, "\xff"), insert(site, 0, strings.Repeat("x", 1025)),
			remove(site, 0, 1), remove(site, -1, 0), remove(site, 999, 999),
			leave(site), stop(site), text(site), sight(site),
			join(8, site), join(0, site), join(99, site), join(1, site), join(5, site), join(6, site), join(site, site),
		}
	}
	for _, site := range farSites {
		for _, s := range at(site) {
			if a := b.must(t, s, api.ErrNone); !sameAnswer(a, api.Answer{Err: api.ErrNone}) {
				t.Fatalf("%s: %s", words(s), words(a))
			}
		}
	}
	for _, s := range at(6) {
		if a := b.must(t, s, api.ErrGone); !sameAnswer(a, api.Answer{Err: api.ErrGone}) {
			t.Fatalf("%s: %s", words(s), words(a))
		}
	}
	b.wantAll(t)
}

// TestEdits: P21.2, W4: what chapter 18 refuses is refused, in its order: of an idle site, of one that leaves, of an active one.
func TestEdits(t *testing.T) {
	b := rich(t)
	long := strings.Repeat("é", 1025)
	for _, x := range []struct {
		s    api.Step
		want api.Errno
	}{
		{insert(5, -1, ""), api.ErrIdle}, {insert(5, 0, "x"), api.ErrIdle}, {remove(5, 0, 1), api.ErrIdle}, {remove(5, -1, -1), api.ErrIdle}, {leave(5), api.ErrIdle},
		{insert(4, -1, ""), api.ErrLeft}, {insert(4, 0, "x"), api.ErrLeft}, {remove(4, 0, 1), api.ErrLeft}, {remove(4, -1, -1), api.ErrLeft}, {leave(4), api.ErrLeft},
		{insert(1, -1, ""), api.ErrText}, {insert(1, 99, "a\xff"), api.ErrText}, {insert(1, 0, long+"\xff"), api.ErrText},
		{insert(1, -1, long), api.ErrLong}, {insert(1, 99, long), api.ErrLong},
		{insert(1, -1, "x"), api.ErrIndex}, {insert(1, 4, "x"), api.ErrIndex}, {insert(1, math.MinInt, "x"), api.ErrIndex}, {insert(1, math.MaxInt, "x"), api.ErrIndex},
		{remove(1, 0, 0), api.ErrIndex}, {remove(1, 0, 4), api.ErrIndex}, {remove(1, 3, 1), api.ErrIndex}, {remove(1, -1, 1), api.ErrIndex}, {remove(1, 0, -1), api.ErrIndex},
		{remove(1, math.MaxInt, math.MaxInt), api.ErrIndex}, {remove(1, 1, math.MaxInt), api.ErrIndex}, {remove(1, math.MinInt, math.MinInt), api.ErrIndex},
	} {
		if a := b.must(t, x.s, x.want); !sameAnswer(a, api.Answer{Err: x.want}) {
			t.Fatalf("%s: %s", words(x.s), words(a))
		}
	}
	b.wantAll(t)
	b.wantText(t, 1, "hlo")

	before := len(b.w.Issued())
	o := b.must(t, insert(1, 3, "!é"), api.OK).Op
	if o.Kind != api.OpInsert || o.Text != "!é" || o.Dot.Site != 1 {
		t.Errorf("inserted: %+v", o)
	}
	b.wantText(t, 1, "hlo!é")
	gone := b.must(t, remove(1, 2, 3), api.OK).Op
	if gone.Kind != api.OpDelete || gone.Dot != (api.Dot{Site: 1, Seq: o.Dot.Seq + 1}) || !slices.Equal(gone.Gone, []api.Run{{ID: api.ID{Time: 5, Site: 1}, Count: 3}}) {
		t.Errorf("deleted: %+v", gone)
	}
	b.wantText(t, 1, "hl")
	left := b.must(t, leave(1), api.OK).Op
	if left.Kind != api.OpLeave || left.Dot != (api.Dot{Site: 1, Seq: o.Dot.Seq + 2}) {
		t.Errorf("left: %+v", left)
	}
	b.must(t, leave(1), api.ErrLeft)
	b.must(t, insert(1, 0, "x"), api.ErrLeft)
	b.wantText(t, 1, "hl")
	issued := b.w.Issued()[before:]
	if !slices.EqualFunc(issued, []api.Op{o, gone, left}, sameOp) {
		t.Errorf("issued: %+v", issued)
	}
	other := b.must(t, insert(3, 0, "z"), api.OK).Op
	if l := b.w.Issued(); len(l) != before+4 || !sameOp(l[before+3], other) || other.Dot.Site != 3 {
		t.Errorf("issued: %+v", l)
	}
	b.wantAll(t)
}

// TestJoin: P21.2, W4: the sponsor's errors come first, then a site of that number that there is or was, then chapter 18's.
func TestJoin(t *testing.T) {
	b := rich(t)
	b.must(t, join(9, 3), api.OK) // of which 1 does not know
	for _, x := range []struct {
		site, sponsor int
		want          api.Errno
	}{
		// Sites that there are, whatever they and the sponsor are at: itself, active, leaving, idle, stopped ones, and one that the sponsor does not know.
		{1, 1, api.ErrExists}, {2, 1, api.ErrExists}, {4, 1, api.ErrExists}, {5, 1, api.ErrExists}, {6, 1, api.ErrExists}, {9, 1, api.ErrExists},
		{1, 4, api.ErrExists}, {4, 4, api.ErrExists}, {5, 4, api.ErrExists}, {6, 4, api.ErrExists}, {9, 4, api.ErrExists},
		{1, 5, api.ErrExists}, {4, 5, api.ErrExists}, {5, 5, api.ErrExists}, {6, 5, api.ErrExists}, {9, 5, api.ErrExists},
		// Others: an idle sponsor, one that leaves, numbers that are no sites.
		{7, 5, api.ErrIdle}, {0, 5, api.ErrIdle}, {17, 5, api.ErrIdle}, {-1, 9, api.ErrIdle},
		{7, 4, api.ErrLeft}, {0, 4, api.ErrLeft}, {17, 4, api.ErrLeft}, {math.MaxInt, 4, api.ErrLeft},
		{0, 1, api.ErrArg}, {-1, 1, api.ErrArg}, {17, 1, api.ErrArg}, {math.MinInt, 1, api.ErrArg}, {math.MaxInt, 1, api.ErrArg}, {1<<32 + 1, 1, api.ErrArg}, {1<<32 + 7, 2, api.ErrArg},
	} {
		if a := b.must(t, join(x.site, x.sponsor), x.want); !sameAnswer(a, api.Answer{Err: x.want}) {
			t.Fatalf("%d by %d: %s", x.site, x.sponsor, words(a))
		}
	}
	b.wantAll(t)

	for _, site := range []int{16, 7, 8} {
		before := b.w.Issued()
		o := b.must(t, join(site, 2), api.OK).Op
		if o.Kind != api.OpJoin || o.Site != site || o.Dot.Site != 2 {
			t.Errorf("joined: %+v", o)
		}
		if l := b.w.Issued(); len(l) != len(before)+1 || !sameOp(l[len(before)], o) {
			t.Errorf("issued: %+v", l)
		}
		b.wantText(t, site, "")
		if s := b.must(t, sight(site), api.OK).Sight; !sameSight(s, api.Sight{Site: site}) {
			t.Errorf("an idle one: %+v", s)
		}
		b.must(t, join(site, 2), api.ErrExists)
		b.must(t, join(site, 1), api.ErrExists)
	}
	if l := b.w.Sites(); !slices.Equal(l, []int{1, 2, 3, 4, 5, 6, 7, 8, 9, 16}) {
		t.Errorf("sites %v", l)
	}
	b.wantAll(t)
}

// TestAllSites: P21.2, P21.5: as many sites as there may be, and none of these once more.
func TestAllSites(t *testing.T) {
	b := begun(t, c)
	for site := 16; site > 1; site-- {
		b.must(t, join(site, 1), api.OK)
	}
	for site := -1; site < 19; site++ {
		want := api.ErrArg
		if site >= 1 && site <= 16 {
			want = api.ErrExists
		}
		b.must(t, join(site, 1), want)
	}
	if l := b.w.Sites(); len(l) != 16 || l[0] != 1 || l[15] != 16 || !slices.IsSorted(l) {
		t.Errorf("sites %v", l)
	}
	for k := range 15 {
		b.must(t, tick(k), api.OK)
	}
	for _, x := range b.m.copies() {
		b.must(t, deliver(x.Num), api.OK)
	}
	for site := 1; site <= 16; site++ {
		if b.state(site) != "active" {
			t.Errorf("site %d is %s", site, b.state(site))
		}
	}
	b.must(t, insert(16, 0, "x"), api.OK)
	b.wantAll(t)
}

// TestStop: P21.2: a stopped site has nothing any more and does nothing, its number is never used again, and the copies to it and from it stay.
func TestStop(t *testing.T) {
	b := joined(t, c, 3)
	b.must(t, insert(2, 0, "told"), api.OK)
	b.must(t, tick(0, 0, 1), api.OK) // 1 to 2, 2 to 1, 3 to 2
	b.must(t, insert(2, 0, "un"), api.OK)
	under := b.must(t, copies(), api.OK).Copies
	if len(under) != 3 || under[0].To != 2 || under[1].From != 2 || under[2].To != 2 {
		t.Fatalf("under way: %s", words(under))
	}
	first := under[0].Num
	events, issued := len(b.w.Events()), len(b.w.Issued())
	if a := b.must(t, stop(2), api.OK); !sameAnswer(a, api.Answer{}) {
		t.Errorf("stopped: %s", words(a))
	}
	if len(b.w.Events()) != events || len(b.w.Issued()) != issued || !slices.Equal(b.w.Sites(), []int{1, 2, 3}) {
		t.Error("stopping is told as something else")
	}
	if got := b.must(t, copies(), api.OK).Copies; !slices.EqualFunc(got, under, sameCopy) {
		t.Errorf("under way: %s; it was %s", words(got), words(under))
	}
	for _, s := range []api.Step{stop(2), text(2), sight(2), insert(2, 0, "x"), remove(2, 0, 1), leave(2), join(4, 2)} {
		b.must(t, s, api.ErrGone)
	}
	b.must(t, join(2, 1), api.ErrExists)
	b.must(t, join(2, 3), api.ErrExists)

	// What it said arrives; what is said to it is lost.
	sent := under[0].Sent
	a := b.must(t, deliver(first+1), api.OK)
	if len(a.Copies) != 1 || a.Copies[0].From != 2 {
		t.Errorf("delivered: %s", words(a))
	}
	b.wantText(t, 1, "told")
	if a := b.must(t, deliver(first), api.OK); len(a.Copies) != 1 || !sameCopy(a.Copies[0], under[0]) {
		t.Errorf("delivered to a stopped one: %s", words(a))
	}
	b.wantLast(t, api.Event{Step: b.w.Steps() - 1, Kind: api.EventDropped, Copy: first, From: 1, To: 2, Sent: sent})
	b.must(t, drop(first+2), api.OK)

	// It has neither ticks nor draws any more; others go on speaking to it, as nobody told them.
	b.must(t, tick(0, 1), api.OK)
	for _, e := range b.w.Events() {
		if e.Step == b.w.Steps()-1 && e.From == 2 {
			t.Errorf("a stopped one speaks: %v", e)
		}
	}
	if !b.under(1, 2) || !b.under(3, 2) {
		t.Errorf("under way: %s", words(b.m.copies()))
	}
	b.wantAll(t)

	// All may be stopped: the founder, an idle one, one that leaves.
	b = rich(t)
	for _, site := range []int{1, 5, 4, 3, 2} {
		b.must(t, stop(site), api.OK)
		b.must(t, stop(site), api.ErrGone)
		b.must(t, join(7, site), api.ErrGone)
		b.must(t, join(site, site), api.ErrGone)
	}
	for _, x := range b.m.copies() {
		b.must(t, deliver(x.Num), api.OK)
		if l := b.w.Events(); l[len(l)-1].Kind != api.EventDropped || l[len(l)-1].Bad != x.Bad {
			t.Fatalf("%+v", l[len(l)-1])
		}
	}
	b.must(t, join(7, 1), api.ErrGone)
	b.wantAll(t)
	if !slices.Equal(b.w.Sites(), []int{1, 2, 3, 4, 5, 6}) {
		t.Errorf("sites %v", b.w.Sites())
	}
}

// TestAnyNumbers: W1, P21.2: each kind of step at any numbers, held against what it must answer; all of them are tried on one world after the other.
func TestAnyNumbers(t *testing.T) {
	b := rich(t)
	for _, n := range edges {
		for _, s := range everyStep(n) {
			b.ask(t, s)
		}
		b.want(t)
	}
	b.wantAll(t)
	b = rich(t)
	for _, n := range edges {
		for _, m := range edges {
			for _, s := range []api.Step{insert(1, n, "y"), remove(2, n, m), join(n, m), alter(n, m, "abc"), cut(n, m)} {
				b.ask(t, s)
			}
		}
		b.do(t, tick(n, -1, n, 1))
	}
	b.wantAll(t)
}
