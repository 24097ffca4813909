package fair_test

import (
	"math"
	"slices"
	"testing"

	"hearsay/api"
	"hearsay/fair"
)

// TestExamples: P23.1, P23.2: the chapter's rows.
func TestExamples(t *testing.T) {
	wantAre(t, nil, nil, 0, 3)
	wantAre(t, nil, []int{1}, 2, 4)
	wantAre(t, nil, two(), 0, 9)
	events := []api.Event{came(1, 2, 1, 3), came(2, 1, 4, 5)}
	wantAre(t, events, two(), 0, 9, stretch(0, 6))
	wantAre(t, events, two(), 2, 9)
	wantAre(t, append(slices.Clone(events), came(1, 2, 7, 8), came(2, 1, 2, 8)), two(), 0, 20, stretch(0, 6))
	events[1].Bad = true
	wantAre(t, events, two(), 0, 9)
}

// TestBound: P23.3: twice the number, between nothing and twice the greatest Seq.
func TestBound(t *testing.T) {
	most := 2 * api.MaxSeq
	for _, c := range [][2]int{
		{0, 0}, {7, 14}, {-1, 0}, {1, 2}, {2, 4}, {1 << 30, 1 << 31}, {math.MinInt, 0}, {math.MinInt + 1, 0}, {-1 << 62, 0}, {-1 << 31, 0},
		{api.MaxSeq - 1, most - 2}, {api.MaxSeq, most}, {api.MaxSeq + 1, most}, {1 << 32, most}, {1 << 62, most}, {math.MaxInt - 1, most}, {math.MaxInt, most},
	} {
		for range 2 {
			if got := fair.Bound(c[0]); got != c[1] {
				t.Errorf("Bound(%d): %d; want %d", c[0], got, c[1])
			}
		}
	}
}

// TestFewSites: P23.2: of fewer than two sites there is no window, whatever arrived; one that stands twice counts once.
func TestFewSites(t *testing.T) {
	events := append(all([]int{1, 2, 3}, 0, 0), came(1, 1, 0, 0), came(0, 0, 0, 0))
	for _, live := range [][]int{nil, {}, {1}, {1, 1}, {0}, {0, 0, 0}, {math.MinInt}, {math.MaxInt, math.MaxInt}} {
		wantAre(t, events, live, 0, 9)
		wantAre(t, nil, live, 0, 9)
		wantAre(t, events, live, -1, math.MaxInt)
	}
	for _, live := range [][]int{{1, 2}, {2, 1}, {1, 2, 1}, {1, 1, 2}, {2, 1, 1, 2}} {
		wantAre(t, events, live, 0, 9, stretch(0, 1))
		wantAre(t, events[:1], live, 0, 9)
	}
}

// TestManySites: P23.1: of whatever sites, something has to arrive of each at each other one, both ways.
func TestManySites(t *testing.T) {
	world := make([]int, api.MaxSites)
	for i := range world {
		world[i] = api.MaxSites - i
	}
	for _, live := range [][]int{{1, 2}, {2, 1}, {1, 2, 3}, {5, 1, 4, 2}, {1, 2, 3, 4, 5, 6, 7, 8, 9}, world, append(world, 17), edges[:3], edges[len(edges)-9:], edges} {
		events := all(live, 3, 4)
		wantAre(t, events, live, 0, 9, stretch(0, 5))
		for i := range events {
			if got := fair.Windows(slices.Delete(slices.Clone(events), i, i+1), live, 0, 9); len(got) > 0 {
				t.Fatalf("sites %v, without %+v: %v", live, events[i], got)
			}
			late := slices.Clone(events)
			late[i].Step = 6
			if got := fair.Windows(late, live, 0, 9); !slices.Equal(got, []api.Window{stretch(0, 7)}) {
				t.Fatalf("sites %v, %+v late: %v", live, late[i], got)
			}
		}
		// With one that nobody hears of, though it hears, and with one that never hears.
		for _, e := range [][2]int{{77, live[0]}, {live[0], 77}} {
			if got := fair.Windows(append(slices.Clone(events), came(e[0], e[1], 3, 4)), append(slices.Clone(live), 77), 0, 9); len(got) > 0 {
				t.Fatalf("sites %v and 77: %v", live, got)
			}
		}
	}
}

// TestHundreds: P23.1, P23.2: more pairs than any word has bits, over windows one behind the other.
func TestHundreds(t *testing.T) {
	var live []int
	var events []api.Event
	for site := range 150 {
		live = append(live, site*site-9)
	}
	for round := range 4 {
		events = append(events, all(live, 10*round+2, 10*round+5)...)
	}
	want := []api.Window{stretch(0, 6), stretch(6, 16), stretch(16, 26), stretch(26, 36)}
	if got := fair.Windows(events, live, 0, 99); !slices.Equal(got, want) {
		t.Errorf("%v; want %v", got, want)
	}
	pairs := len(events) / 4
	for _, i := range []int{0, 1, 63, 64, 65, 127, 128, pairs - 64, pairs - 2, pairs - 1} {
		lost := slices.Delete(slices.Clone(events), pairs+i, pairs+i+1)
		if got := fair.Windows(lost, live, 0, 99); !slices.Equal(got, []api.Window{stretch(0, 6), stretch(6, 26), stretch(26, 36)}) {
			t.Errorf("without %+v: %v", events[pairs+i], got)
		}
	}
}

// TestNobodySpeaks: W1: of very many sites there is no window where little arrives, and no room is taken for all their pairs.
func TestNobodySpeaks(t *testing.T) {
	live := make([]int, 1<<20)
	for i := range live {
		live[i] = i
	}
	for _, events := range [][]api.Event{nil, all(live[:40], 1, 2), slices.Repeat([]api.Event{came(7, 9, 1, 2)}, 1<<12)} {
		if got := fair.Windows(events, live, 0, 9); len(got) > 0 {
			t.Errorf("%v", got)
		}
	}
}

// TestFrom: P23.2: the first window begins at from, at 0 if that is below 0, wherever its events are.
func TestFrom(t *testing.T) {
	events := append(all(two(), 4, 5), all(two(), 7, 8)...)
	for _, from := range []int{math.MinInt, math.MinInt + 1, -1 << 32, -1, 0} {
		wantAre(t, events, two(), from, 9, stretch(0, 6), stretch(6, 9))
	}
	for from := range 5 {
		wantAre(t, events, two(), from, 9, stretch(from, 6), stretch(6, 9))
	}
	for _, from := range []int{5, 6, 7} {
		wantAre(t, events, two(), from, 9, stretch(from, 9))
	}
	for _, from := range []int{8, 9, 10, 1 << 32, math.MaxInt - 1, math.MaxInt} {
		wantAre(t, events, two(), from, 9)
		wantAre(t, events, two(), from, math.MaxInt)
	}
}

// TestTo: P23.2: no window ends behind to; none ends, if to is not above from.
func TestTo(t *testing.T) {
	events := append(all(two(), 4, 5), all(two(), 7, 8)...)
	for _, to := range []int{math.MinInt, -1, 0, 1, 4, 5} {
		for _, from := range []int{math.MinInt, -1, 0, 1, 4, math.MaxInt} {
			wantAre(t, events, two(), from, to)
		}
	}
	for _, to := range []int{6, 7, 8} {
		wantAre(t, events, two(), 0, to, stretch(0, 6))
	}
	for _, to := range []int{9, 10, 1 << 32, math.MaxInt - 1, math.MaxInt} {
		wantAre(t, events, two(), 0, to, stretch(0, 6), stretch(6, 9))
		wantAre(t, events, two(), math.MinInt, to, stretch(0, 6), stretch(6, 9))
	}
}

// TestBelow: P23.2: what was sent or came at steps below 0 counts in no window, wherever from is.
func TestBelow(t *testing.T) {
	for _, step := range edges {
		if step >= 0 {
			continue
		}
		for _, from := range []int{math.MinInt, step, -1, 0} {
			wantAre(t, all(two(), step, step), two(), from, 9)
			wantAre(t, all(two(), step, 3), two(), from, 9)
			wantAre(t, all(two(), 3, step), two(), from, 9)
			wantAre(t, append(all(two(), step, step), all(two(), 0, 0)...), two(), from, 9, stretch(0, 1))
		}
	}
}

// TestFarSteps: P23.1, P23.2: steps at both ends of what a number can be; a window that would end behind all numbers does not.
func TestFarSteps(t *testing.T) {
	const far = math.MaxInt
	wantAre(t, all(two(), far, far), two(), 0, far)
	wantAre(t, all(two(), far-1, far), two(), far, far)
	wantAre(t, all(two(), far, far-1), two(), 0, far)
	wantAre(t, all(two(), far-1, far-1), two(), 0, far, stretch(0, far))
	wantAre(t, all(two(), far-1, far-1), two(), far-1, far, stretch(far-1, far))
	wantAre(t, all(two(), far-1, far-1), two(), far, far)
	wantAre(t, all(two(), far-1, far-1), two(), 0, far-1)
	wantAre(t, append(all(two(), 0, 0), all(two(), 1, far-1)...), two(), math.MinInt, far, stretch(0, 1), stretch(1, far))
	wantAre(t, append(all(two(), math.MinInt, far), all(two(), far, math.MinInt)...), two(), math.MinInt, far)
	for _, sent := range edges {
		for _, step := range edges {
			for _, from := range edges {
				both(t, all(two(), sent, step), two(), from, far)
				both(t, append(all(two(), 0, 2), all(two(), sent, step)...), two(), from, 1<<32+2)
			}
		}
	}
}

// TestKinds: P23.1: an event of another kind than EventDelivered counts for nothing, nor does a Bad one; what else it says is not looked at.
func TestKinds(t *testing.T) {
	for _, kind := range append([]int{4, 5, 6, 7}, edges...) {
		for _, bad := range []bool{false, true} {
			events := all(two(), 2, 3)
			events[1].Kind, events[1].Bad = kind, bad
			if kind == api.EventDelivered && !bad {
				wantAre(t, events, two(), 0, 9, stretch(0, 4))
				continue
			}
			wantAre(t, events, two(), 0, 9)
			wantAre(t, append(events, came(2, 1, 4, 6)), two(), 0, 9, stretch(0, 7))
		}
	}
	for _, num := range edges {
		events := all(two(), 2, 3)
		events[0].Copy, events[1].Copy = num, -num
		wantAre(t, events, two(), 0, 9, stretch(0, 4))
	}
}

// TestStrangers: P23.1: what goes from a site to itself counts for nothing, nor what comes from one that is not live, or to one.
func TestStrangers(t *testing.T) {
	for _, other := range append([]int{4, 5, -3}, edges...) {
		if other == 1 || other == 2 {
			continue
		}
		for _, e := range [][2]int{{1, 1}, {2, 2}, {other, other}, {other, 1}, {other, 2}, {1, other}, {2, other}} {
			odd := came(e[0], e[1], 2, 3)
			wantAre(t, []api.Event{came(1, 2, 2, 3), odd}, two(), 0, 9)
			wantAre(t, []api.Event{odd, came(2, 1, 2, 3)}, two(), 0, 9)
			wantAre(t, append(all(two(), 2, 3), odd), two(), 0, 9, stretch(0, 4))
			wantAre(t, append(all(two(), 2, 4), odd, odd), two(), 0, 9, stretch(0, 5))
		}
	}
	// Low bits alone make no site.
	wantAre(t, all([]int{1<<32 + 1, 1<<32 + 2}, 2, 3), two(), 0, 9)
}

// TestWhen: P23.1: an event counts in the stretch in which it was sent and came, whichever is told to be first, its first step and its last one with it.
func TestWhen(t *testing.T) {
	const s, end = 10, 20
	for sent := s - 3; sent <= end+3; sent++ {
		for step := s - 3; step <= end+3; step++ {
			events := []api.Event{came(1, 2, sent, step), came(2, 1, s, s)}
			var want []api.Window
			if min(sent, step) >= s && max(sent, step) < end {
				want = append(want, stretch(s, max(sent, step)+1))
			}
			wantAre(t, events, two(), s, end, want...)
			slices.Reverse(events)
			wantAre(t, events, two(), s, end, want...)
		}
	}
}

// TestEnds: P23.2: a window ends at the least step, and not a step later; the next one begins there, and what was used or was sent ahead of it counts in it no more.
func TestEnds(t *testing.T) {
	events := append(all(two(), 0, 2), all(two(), 3, 5)...)
	wantAre(t, events, two(), 0, 6, stretch(0, 3), stretch(3, 6))
	for i, sent := range []int{2, 1, 0} {
		ahead := append(all(two(), 0, 2), came(1, 2, sent, 5), came(2, 1, 3, 5))
		wantAre(t, ahead, two(), 0, 9, stretch(0, 3))
		wantAre(t, append(ahead, came(1, 2, 4, 6+i)), two(), 0, 9, stretch(0, 3), stretch(3, 7+i))
	}
	// What comes at the step that ends a window is in that one alone, as is what was sent at it.
	wantAre(t, append(all(two(), 2, 2), all(two(), 2, 2)...), two(), 0, 9, stretch(0, 3))
	wantAre(t, append(all(two(), 1, 2), all(two(), 2, 4)...), two(), 0, 9, stretch(0, 3))
	wantAre(t, append(all(two(), 1, 2), all(two(), 4, 2)...), two(), 0, 9, stretch(0, 3))
	// One way round comes again and again, the other one is waited for.
	var often []api.Event
	for step := range 8 {
		often = append(often, came(1, 2, step, step))
	}
	wantAre(t, often, two(), 0, 9)
	wantAre(t, append(often, came(2, 1, 0, 4)), two(), 0, 9, stretch(0, 5))
	wantAre(t, append(often, came(2, 1, 0, 4), came(2, 1, 4, 7), came(2, 1, 5, 5)), two(), 0, 9, stretch(0, 5), stretch(5, 6))
}

// TestOneStep: P23.2: windows may be of one step, one behind the other without end.
func TestOneStep(t *testing.T) {
	var events []api.Event
	var want []api.Window
	for step := range 200 {
		events = append(events, all([]int{1, 2, 3}, step, step)...)
		want = append(want, stretch(step, step+1))
	}
	slices.Reverse(events)
	wantAre(t, events, []int{1, 2, 3}, 0, 200, want...)
	wantAre(t, events, []int{1, 2, 3}, 17, 55, want[17:55]...)
}

// TestEachCounts: P23.2: windows that have one event alone of each pair: none of them may be missing, lost or altered.
func TestEachCounts(t *testing.T) {
	var events []api.Event
	step := 0
	for range 3 {
		for _, e := range all([]int{1, 2, 3}, 0, 0) {
			e.Sent, e.Step = step, step+1
			step += 2
			events = append(events, e)
		}
	}
	live := []int{1, 2, 3}
	wantAre(t, events, live, 0, 36, stretch(0, 12), stretch(12, 24), stretch(24, 36))
	for i := range events {
		without := slices.Delete(slices.Clone(events), i, i+1)
		lost, bad := slices.Clone(events), slices.Clone(events)
		lost[i].Kind, bad[i].Bad = api.EventDropped, true
		for _, l := range [][]api.Event{without, lost, bad} {
			if got := both(t, l, live, 0, 36); len(got) != 2 {
				t.Errorf("without %+v: %v", events[i], got)
			}
		}
	}
	for _, e := range events {
		wantAre(t, []api.Event{e}, live, 0, 99)
		wantAre(t, []api.Event{e}, two(), 0, 99)
	}
}

// TestAnyOrder: P23.2: the events' order does not matter, nor do the sites', nor whether something stands there twice.
func TestAnyOrder(t *testing.T) {
	events := []api.Event{came(1, 2, 0, 3), came(2, 1, 1, 2), came(1, 2, 2, 4), came(2, 1, 4, 4), came(1, 2, 4, 6)}
	want := []api.Window{stretch(0, 4), stretch(4, 7)}
	var orders func(done, rest []api.Event)
	orders = func(done, rest []api.Event) {
		if len(rest) == 0 {
			wantAre(t, done, two(), 0, 9, want...)
			wantAre(t, slices.Concat(done, done), []int{2, 1, 2}, 0, 9, want...)
		}
		for i, e := range rest {
			orders(append(slices.Clone(done), e), slices.Delete(slices.Clone(rest), i, i+1))
		}
	}
	orders(nil, events)
	for i, e := range events {
		wantAre(t, append([]api.Event{e, e}, events...), two(), 0, 9, want...)
		wantAre(t, slices.Insert(slices.Clone(events), i, e), two(), 0, 9, want...)
	}
}

// TestEach: W1, W7: the windows are yielded until the loop has enough, and again in another loop, also one inside it.
func TestEach(t *testing.T) {
	var events []api.Event
	for step := range 5 {
		events = append(events, all(two(), step, step)...)
	}
	each := fair.Each(events, two(), 0, 9)
	for enough := range 5 {
		n := 0
		for w := range each {
			if w != stretch(n, n+1) {
				t.Errorf("%v comes %d-th", w, n)
			}
			if n == enough {
				break
			}
			n++
		}
		if n != enough {
			t.Errorf("%d windows; %d were enough", n, enough)
		}
	}
	pairs := 0
	for range each {
		for range each {
			pairs++
		}
	}
	if pairs != 25 {
		t.Errorf("%d pairs of windows; want 25", pairs)
	}
}
