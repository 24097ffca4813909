package world_test

import (
	"math"
	"slices"
	"strings"
	"testing"

	"hearsay/api"
	"hearsay/frame"
)

// pairs is who spoke to whom at the last step, in that order.
func (b both) pairs() [][2]int {
	var l [][2]int
	for _, e := range b.w.Events() {
		if e.Step == b.w.Steps()-1 && e.Kind == api.EventSent {
			l = append(l, [2]int{e.From, e.To})
		}
	}
	return l
}

// wantPairs does a tick, and holds who speaks to whom against what is written out.
func (b both) wantPairs(t *testing.T, draws []int, want ...[2]int) {
	t.Helper()
	a := b.must(t, tick(draws...), api.OK)
	if got := b.pairs(); !slices.Equal(got, want) || !sameAnswer(a, api.Answer{}) {
		t.Fatalf("draws %v: %v; want %v", draws, got, want)
	}
	for _, x := range b.m.copies() {
		b.ask(t, drop(x.Num))
	}
}

// TestDraws: P21.3: whom each site draws: the number in the order of the other members, round and round, 0 where none is said.
func TestDraws(t *testing.T) {
	b := joined(t, c, 4)
	first := [][2]int{{1, 2}, {2, 1}, {3, 1}, {4, 1}}
	second := [][2]int{{1, 3}, {2, 3}, {3, 2}, {4, 2}}
	third := [][2]int{{1, 4}, {2, 4}, {3, 4}, {4, 3}}
	all := func(d int) []int { return []int{d, d, d, d} }
	for _, x := range []struct {
		draws []int
		want  [][2]int
	}{
		{nil, first}, {[]int{}, first}, {all(0), first}, {all(1), second}, {all(2), third}, {all(3), first}, {all(4), second}, {all(300), first}, {all(302), third},
		{all(-1), third}, {all(-2), second}, {all(-3), first}, {all(-4), third}, {all(-300), first}, {all(-301), third},
		{all(math.MaxInt), second}, {all(math.MaxInt - 1), first}, {all(math.MaxInt - 2), third}, // 2^63 - 1 is 1 more than a multiple of 3
		{all(math.MinInt), second}, {all(math.MinInt + 1), third}, {all(math.MinInt + 2), first},
		{[]int{1}, [][2]int{{1, 3}, {2, 1}, {3, 1}, {4, 1}}},
		{[]int{0, 0, 2}, [][2]int{{1, 2}, {2, 1}, {3, 4}, {4, 1}}},
		{[]int{2, -1, 1}, [][2]int{{1, 4}, {2, 4}, {3, 2}, {4, 1}}},
		{[]int{0, 1, 2, -2}, [][2]int{{1, 2}, {2, 3}, {3, 4}, {4, 2}}},
		{[]int{1, 1, 1, 1, 2, 2, -9, math.MaxInt}, second},
		{slices.Repeat([]int{2}, 1000), third},
	} {
		b.wantPairs(t, x.draws, x.want...)
	}
	b.wantAll(t)
}

// TestDrawsStopped: P21.3: Draws counts the sites that are not stopped, idle ones too; a stopped one is drawn all the same, while it is a member.
func TestDrawsStopped(t *testing.T) {
	b := joined(t, c, 4)
	b.must(t, stop(2), api.OK)
	b.wantPairs(t, []int{0, 1, 2}, [2]int{1, 2}, [2]int{3, 2}, [2]int{4, 3})
	b.wantPairs(t, []int{1, 2, 0}, [2]int{1, 3}, [2]int{3, 4}, [2]int{4, 1})
	b.must(t, stop(1), api.OK)
	b.wantPairs(t, []int{2, -3}, [2]int{3, 4}, [2]int{4, 1})
	b.wantPairs(t, nil, [2]int{3, 1}, [2]int{4, 1})
	b.must(t, stop(4), api.OK)
	b.wantPairs(t, []int{1, 0, 0, 0}, [2]int{3, 2})
	b.must(t, stop(3), api.OK)
	b.wantPairs(t, []int{1, 1})
	b.wantPairs(t, nil)
	b.wantAll(t)

	// 2 is idle, between 1 and 3: it has its tick, takes its element, and says nothing.
	b = begun(t, c)
	b.must(t, join(3, 1), api.OK)
	b.must(t, tick(), api.OK)
	b.must(t, deliver(1), api.OK)
	b.must(t, deliver(2), api.OK)
	b.must(t, join(2, 1), api.OK)
	b.must(t, tick(1, 0), api.OK) // 1 tells 3 of 2
	for _, x := range b.m.copies() {
		b.must(t, deliver(x.Num), api.OK)
	}
	for _, x := range b.m.copies() {
		b.must(t, deliver(x.Num), api.OK)
	}
	b.wantPairs(t, []int{1, 0, 1}, [2]int{1, 3}, [2]int{3, 2})
	b.wantPairs(t, []int{1, 1, 0}, [2]int{1, 3}, [2]int{3, 1})
	if s := b.must(t, sight(2), api.OK).Sight; s.Active || s.Tick != 3 {
		t.Errorf("the idle one: %+v", s)
	}
	b.wantAll(t)
}

// TestAlone: P21.3: a site without other members draws nobody, whether it never had any, or these have left; one that leaves draws still.
func TestAlone(t *testing.T) {
	b := begun(t, c)
	for _, draws := range [][]int{nil, {0}, {1}, {-1}, {math.MaxInt}, {math.MinInt, 3}} {
		b.wantPairs(t, draws)
	}
	if s := b.must(t, sight(1), api.OK).Sight; s.Tick != 6 {
		t.Errorf("%+v", s)
	}
	b = joined(t, c, 3)
	b.must(t, leave(2), api.OK)
	b.wantPairs(t, []int{0, 0, 0}, [2]int{1, 2}, [2]int{2, 1}, [2]int{3, 1})
	b.wantPairs(t, []int{1, 1, 1}, [2]int{1, 3}, [2]int{2, 3}, [2]int{3, 2})

	b = joined(t, c, 2)
	b.must(t, leave(2), api.OK)
	b.must(t, tick(), api.OK)
	for _, x := range b.m.copies() {
		if x.From == 2 {
			b.must(t, deliver(x.Num), api.OK)
		} else {
			b.must(t, drop(x.Num), api.OK)
		}
	}
	if s := b.must(t, sight(1), api.OK).Sight; !slices.Equal(s.Members, []int{1}) {
		t.Fatalf("members %v", s.Members)
	}
	b.wantPairs(t, []int{0, 0}, [2]int{2, 1})
	b.wantPairs(t, []int{5}, [2]int{2, 1}, [2]int{2, 1}) // nobody acknowledges what 2 said last, so its timer runs out
	b.must(t, stop(2), api.OK)
	for range 12 {
		b.wantPairs(t, []int{5})
	}
	b.must(t, leave(1), api.OK)
	b.wantPairs(t, []int{1})
	b.wantAll(t)
}

// TestTickOrder: P21.3: site by site: what its timers let go out, then what it says to the one that it draws; of each an event, with all its fields.
func TestTickOrder(t *testing.T) {
	b := begun(t, c) // timers of 2 ticks at first
	b.must(t, join(2, 1), api.OK)
	b.must(t, join(3, 1), api.OK)
	b.must(t, join(4, 1), api.OK)
	b.must(t, tick(1), api.OK) // step 3: 3 is drawn
	b.must(t, tick(0), api.OK) // step 4: 2
	b.wantCopies(t, way{1, 1, 3, 3}, way{2, 1, 2, 4})
	b.must(t, tick(2), api.OK) // step 6: the timer of 3 runs out, then 4 is drawn
	b.wantLast(t,
		api.Event{Step: 6, Kind: api.EventSent, Copy: 3, From: 1, To: 3, Sent: 6},
		api.Event{Step: 6, Kind: api.EventSent, Copy: 4, From: 1, To: 4, Sent: 6})
	b.must(t, deliver(1), api.OK) // step 7: 3 answers
	b.wantLast(t,
		api.Event{Step: 7, Kind: api.EventDelivered, Copy: 1, From: 1, To: 3, Sent: 3},
		api.Event{Step: 7, Kind: api.EventSent, Copy: 5, From: 3, To: 1, Sent: 7})
	b.must(t, tick(2, 0, 0, 0), api.OK) // step 8: the timer of 2 runs out, 4 is drawn; then 3 draws 1
	b.wantLast(t,
		api.Event{Step: 8, Kind: api.EventSent, Copy: 6, From: 1, To: 2, Sent: 8},
		api.Event{Step: 8, Kind: api.EventSent, Copy: 7, From: 1, To: 4, Sent: 8},
		api.Event{Step: 8, Kind: api.EventSent, Copy: 8, From: 3, To: 1, Sent: 8})
	for range 30 {
		b.must(t, tick(2, 1, 1, 1), api.OK)
	}
	b.wantAll(t)
}

// TestDeliver: P21.4: a clean copy is taken in, and off the way; the event stands ahead of what goes out.
func TestDeliver(t *testing.T) {
	b := joined(t, c, 3)
	b.must(t, insert(1, 0, "news"), api.OK)
	b.must(t, tick(1, 0, 0), api.OK)
	sent := b.w.Steps() - 1
	under := b.must(t, copies(), api.OK).Copies
	n := under[0].Num
	if len(under) != 3 || under[0].To != 3 {
		t.Fatalf("under way: %s", words(under))
	}
	a := b.must(t, deliver(n), api.OK)
	if !sameAnswer(a, api.Answer{Copies: under[:1]}) {
		t.Errorf("delivered: %s", words(a))
	}
	b.wantText(t, 3, "news")
	b.wantText(t, 2, "")
	step := sent + 2
	b.wantLast(t,
		api.Event{Step: step, Kind: api.EventDelivered, Copy: n, From: 1, To: 3, Sent: sent},
		api.Event{Step: step, Kind: api.EventSent, Copy: n + 3, From: 3, To: 1, Sent: step})
	b.must(t, deliver(n), api.ErrNone)
	b.must(t, drop(n), api.ErrNone)
	b.must(t, double(n), api.ErrNone)
	b.must(t, alter(n, 0, "x"), api.ErrNone)
	b.must(t, cut(n, 0), api.ErrNone)
	b.wantCopies(t, way{n + 1, 2, 1, sent}, way{n + 2, 3, 1, sent}, way{n + 3, 3, 1, step})
	// What brings nothing is delivered all the same; 1 answers, as 2 lacks something by what it says.
	b.must(t, deliver(n+1), api.OK)
	events := b.w.Events()
	if last := events[len(events)-2:]; last[0].Kind != api.EventDelivered || last[0].Copy != n+1 || last[1].Kind != api.EventSent || last[1].From != 1 || last[1].To != 2 {
		t.Errorf("%+v", last)
	}
	// An answer brings no answer.
	b.must(t, deliver(n+3), api.OK)
	b.wantLast(t, api.Event{Step: b.w.Steps() - 1, Kind: api.EventDelivered, Copy: n + 3, From: 3, To: 1, Sent: step})
	b.wantAll(t)
}

// TestDeliverNumbers: P21.2, P21.4: numbers of no copy: such as were never given, below 0, as great as can be, of one that arrived or was lost.
func TestDeliverNumbers(t *testing.T) {
	b := rich(t)
	under := b.m.copies()
	b.must(t, deliver(under[0].Num), api.OK)
	b.must(t, drop(under[1].Num), api.OK)
	last := len(b.m.frames)
	for _, n := range slices.Concat(farSites, []int{0, -1, last + 1, last + 2, 1 << 31, under[0].Num, under[1].Num, 1<<32 + last, last - 1<<32}) {
		if slices.ContainsFunc(b.m.copies(), func(x api.Copy) bool { return x.Num == n }) {
			continue
		}
		for _, s := range []api.Step{deliver(n), drop(n), double(n), alter(n, 0, "x"), alter(n, -1, ""), alter(n, math.MaxInt, "abcde"), cut(n, 0), cut(n, -1), cut(n, math.MaxInt)} {
			events := len(b.w.Events())
			if a := b.must(t, s, api.ErrNone); !sameAnswer(a, api.Answer{Err: api.ErrNone}) || len(b.w.Events()) != events {
				t.Fatalf("%s: %s", words(s), words(a))
			}
		}
	}
	b.wantAll(t)
}

// wantRefused delivers a copy that is refused with an error: it is off the way, it is told, there is one event, and nothing else has changed.
func (b both) wantRefused(t *testing.T, num int, want api.Errno) {
	t.Helper()
	under := b.must(t, copies(), api.OK).Copies
	at := slices.IndexFunc(under, func(x api.Copy) bool { return x.Num == num })
	x := under[at]
	var before []api.Answer
	sites := b.w.Sites()
	for _, site := range sites {
		before = append(before, b.ask(t, text(site)), b.ask(t, sight(site)))
	}
	events, issued := b.w.Events(), len(b.w.Issued())
	a := b.must(t, deliver(num), want)
	if !sameAnswer(a, api.Answer{Err: want, Copies: []api.Copy{x}}) {
		t.Errorf("refused: %s", words(a))
	}
	e := api.Event{Step: b.w.Steps() - 1, Kind: api.EventDelivered, Copy: num, From: x.From, To: x.To, Sent: x.Sent, Bad: x.Bad}
	if got := b.w.Events(); !slices.Equal(got, append(events, e)) {
		t.Errorf("events: %s; want one more, %+v", words(got), e)
	}
	if got := b.must(t, copies(), api.OK).Copies; !slices.EqualFunc(got, slices.Delete(under, at, at+1), sameCopy) {
		t.Errorf("under way: %s", words(got))
	}
	for i, site := range sites {
		if !sameAnswer(b.ask(t, text(site)), before[2*i]) || !sameAnswer(b.ask(t, sight(site)), before[2*i+1]) {
			t.Errorf("site %d has changed", site)
		}
	}
	if len(b.w.Issued()) != issued || !slices.Equal(b.w.Sites(), sites) {
		t.Error("something was issued")
	}
	b.must(t, deliver(num), api.ErrNone)
}

// TestBad: P21.4, P0.9: a copy that was altered at any place, or cut off at any length, is refused, by an active site and by an idle one, and changes nothing.
func TestBad(t *testing.T) {
	b := joined(t, c, 2)
	b.must(t, insert(1, 0, "news"), api.OK)
	b.must(t, join(3, 1), api.OK)
	b.must(t, tick(0), api.OK)
	b.must(t, tick(1), api.OK)
	for _, to := range []int{2, 3} {
		under := b.m.copies()
		x := under[slices.IndexFunc(under, func(x api.Copy) bool { return x.To == to })]
		size := len(x.Data)
		for at := range size {
			num := b.must(t, double(x.Num), api.OK).Copies[0].Num
			by := []byte{^x.Data[at], x.Data[max(0, at-1)], 0, 0xff}[:min(1+at%4, size-at)]
			b.must(t, alter(num, at, string(by)), api.OK)
			want := api.ErrSum
			if at < 4 {
				want = api.ErrLong
			}
			b.wantRefused(t, num, want)
		}
		for left := range size {
			num := b.must(t, double(x.Num), api.OK).Copies[0].Num
			b.must(t, cut(num, left), api.OK)
			want := api.ErrLong
			if left < 8 {
				want = api.ErrShort
			}
			b.wantRefused(t, num, want)
		}
		b.must(t, deliver(x.Num), api.OK)
		b.wantText(t, to, "news")
	}
	b.wantAll(t)
}

// encoded is the bytes of a frame that is made by hand.
func encoded(t *testing.T, f api.Frame) []byte {
	t.Helper()
	data, err := frame.Encode(f)
	wantErr(t, "Encode", err, api.OK)
	return data
}

// TestRefused: P21.4, P21.7: clean copies that the receiver refuses, which only hand-made frames are.
func TestRefused(t *testing.T) {
	b := rich(t)
	for _, x := range []struct {
		from, to int
		data     []byte
		want     api.Errno
	}{
		{1, 2, nil, api.ErrShort},
		{1, 2, []byte("any bytes"), api.ErrLong},
		{1, 2, encoded(t, api.Frame{Kind: api.FrameOps, From: 1, To: 3}), api.ErrSite},
		{1, 2, encoded(t, api.Frame{Kind: api.FrameOps, From: 2, To: 1}), api.ErrSite},
		{1, 5, encoded(t, api.Frame{Kind: api.FrameOps, From: 1, To: 5}), api.ErrIdle},
		{1, 5, encoded(t, api.Frame{Kind: api.FrameImage, From: 1, To: 5}), api.ErrSite},
		{16, 4, []byte("12345678"), api.ErrLong},
	} {
		b.wantRefused(t, b.lay(t, x.from, x.to, x.data), x.want)
	}
	// What a frame says of its sender counts, not from where the copy came.
	num := b.lay(t, 9, 2, encoded(t, api.Frame{Kind: api.FrameOps, From: 3, To: 2}))
	b.must(t, deliver(num), api.OK)
	b.wantAll(t)
}

// TestNowhere: P21.4: a copy to a site that there is not is lost, as one to a site that is stopped; whatever it is.
func TestNowhere(t *testing.T) {
	b := rich(t)
	right := encoded(t, api.Frame{Kind: api.FrameOps, From: 1, To: 9})
	for _, to := range []int{9, 6} {
		for _, spoiling := range []api.Step{copies(), alter(0, 3, "z"), cut(0, 2)} {
			step := b.w.Steps()
			num := b.lay(t, 1, to, right)
			spoiling.N = num
			b.must(t, spoiling, api.OK)
			under := b.must(t, copies(), api.OK).Copies
			last := under[len(under)-1]
			a := b.must(t, deliver(num), api.OK)
			if !sameAnswer(a, api.Answer{Copies: []api.Copy{last}}) {
				t.Errorf("delivered to %d: %s", to, words(a))
			}
			b.wantLast(t, api.Event{Step: step + 2, Kind: api.EventDropped, Copy: num, From: 1, To: to, Sent: step, Bad: spoiling.Kind != api.StepCopies})
			b.must(t, deliver(num), api.ErrNone)
		}
	}
	b.wantAll(t)
	// Once there is one, a copy that was sent ahead of that arrives.
	num := b.lay(t, 1, 9, right)
	b.must(t, join(9, 2), api.OK)
	b.wantRefused(t, num, api.ErrIdle)
}

// TestDropDouble: P21.2: what is lost, and what is doubled: each with its event and its copy; Sent stays that of the first one.
func TestDropDouble(t *testing.T) {
	b := joined(t, c, 2)
	b.must(t, insert(1, 0, "text"), api.OK)
	b.must(t, tick(), api.OK)
	sent := b.w.Steps() - 1
	under := b.must(t, copies(), api.OK).Copies
	n, first := under[0].Num, under[0]
	same := func(num int) api.Copy { x := first; x.Num = num; return x }

	a := b.must(t, double(n), api.OK) // n + 2
	if !sameAnswer(a, api.Answer{Copies: []api.Copy{same(n + 2)}}) {
		t.Errorf("doubled: %s", words(a))
	}
	b.wantLast(t, api.Event{Step: sent + 2, Kind: api.EventSent, Copy: n + 2, From: 1, To: 2, Sent: sent})
	b.must(t, alter(n, 8, "\xfe\xfd"), api.OK)
	a = b.must(t, double(n), api.OK) // n + 3, of a bad one: clean
	if !sameAnswer(a, api.Answer{Copies: []api.Copy{same(n + 3)}}) {
		t.Errorf("a double of a bad one: %s", words(a))
	}
	b.wantLast(t, api.Event{Step: sent + 4, Kind: api.EventSent, Copy: n + 3, From: 1, To: 2, Sent: sent})
	b.must(t, cut(n+2, 5), api.OK)
	a = b.must(t, double(n+2), api.OK) // n + 4, of a double that is cut off
	if !sameAnswer(a, api.Answer{Copies: []api.Copy{same(n + 4)}}) {
		t.Errorf("a double of a double: %s", words(a))
	}
	b.wantLast(t, api.Event{Step: sent + 6, Kind: api.EventSent, Copy: n + 4, From: 1, To: 2, Sent: sent})

	bad := first
	bad.Bad, bad.Data = true, slices.Clone(first.Data)
	copy(bad.Data[8:], "\xfe\xfd")
	a = b.must(t, drop(n), api.OK)
	if !sameAnswer(a, api.Answer{Copies: []api.Copy{bad}}) {
		t.Errorf("dropped: %s", words(a))
	}
	b.wantLast(t, api.Event{Step: sent + 7, Kind: api.EventDropped, Copy: n, From: 1, To: 2, Sent: sent, Bad: true})
	a = b.must(t, drop(n+3), api.OK)
	if !sameAnswer(a, api.Answer{Copies: []api.Copy{same(n + 3)}}) {
		t.Errorf("dropped: %s", words(a))
	}
	b.wantLast(t, api.Event{Step: sent + 8, Kind: api.EventDropped, Copy: n + 3, From: 1, To: 2, Sent: sent})
	b.wantText(t, 2, "")

	// A double arrives as the first one would; a second time it brings nothing new.
	b.must(t, double(n+4), api.OK) // n + 5
	b.must(t, deliver(n+4), api.OK)
	b.wantText(t, 2, "text")
	b.must(t, deliver(n+5), api.OK)
	b.wantText(t, 2, "text")
	for _, e := range b.w.Events() {
		if e.Copy == n+5 && e.Sent != sent {
			t.Errorf("%+v", e)
		}
	}
	b.wantAll(t)
}

// TestAlterCut: P21.2, W4: chapter 20's errors in their order; neither is an event, and neither tells anything.
func TestAlterCut(t *testing.T) {
	b := joined(t, c, 2)
	b.must(t, insert(1, 0, "text"), api.OK)
	b.must(t, tick(), api.OK)
	under := b.must(t, copies(), api.OK).Copies
	n, data := under[0].Num, string(under[0].Data)
	size := len(data)
	events := len(b.w.Events())
	try := func(s api.Step, want api.Errno) {
		t.Helper()
		if a := b.must(t, s, want); !sameAnswer(a, api.Answer{Err: want}) {
			t.Errorf("%s: %s", words(s), words(a))
		}
	}
	wrong := func() {
		t.Helper()
		for _, s := range []api.Step{
			alter(n, 0, ""), alter(n, 0, "abcde"), alter(n, -1, "x"), alter(n, size, "x"), alter(n, size-1, "xy"), alter(n, math.MaxInt, "x"), alter(n, math.MinInt, "x"),
			cut(n, -1), cut(n, size), cut(n, size+1), cut(n, math.MaxInt), cut(n, math.MinInt),
		} {
			try(s, api.ErrArg)
		}
	}
	wrong()
	try(alter(n, 2, data[2:6]), api.ErrArg)
	try(alter(n, size-4, strings.Repeat("\xaa", 4)), api.OK)
	wrong() // ErrArg comes ahead of ErrExists
	try(alter(n, size-4, "\xaa\xaa"), api.ErrArg)
	try(alter(n, 0, "\xaa"), api.ErrExists)
	try(cut(n, size-1), api.ErrExists)
	try(cut(n, 0), api.ErrExists)
	try(cut(n+1, 0), api.OK)
	try(cut(n+1, 0), api.ErrArg)
	try(alter(n+1, 0, "x"), api.ErrArg)
	if len(b.w.Events()) != events {
		t.Errorf("events: %v", b.w.Events()[events:])
	}
	got := b.must(t, copies(), api.OK).Copies
	if len(got) != 2 || string(got[0].Data) != data[:size-4]+"\xaa\xaa\xaa\xaa" || !got[0].Bad || len(got[1].Data) != 0 || !got[1].Bad {
		t.Errorf("under way: %s", words(got))
	}
	b.wantRefused(t, n, api.ErrSum)
	b.wantRefused(t, n+1, api.ErrShort)
	b.wantAll(t)
}

// TestLooks: P21.2: asking changes nothing, and tells nothing but what it asks for.
func TestLooks(t *testing.T) {
	b := rich(t)
	events, issued := b.w.Events(), len(b.w.Issued())
	for range 3 {
		for site := 1; site <= 5; site++ {
			a := b.must(t, text(site), api.OK)
			if want := b.m.sites[site].site.Text(); !sameAnswer(a, api.Answer{Text: want}) {
				t.Errorf("text of %d: %s", site, words(a))
			}
			a = b.must(t, sight(site), api.OK)
			if want := b.m.sites[site].site.Sight(); !sameAnswer(a, api.Answer{Sight: want}) {
				t.Errorf("sight of %d: %s", site, words(a))
			}
		}
		a := b.must(t, copies(), api.OK)
		if !sameAnswer(a, api.Answer{Copies: b.m.copies()}) {
			t.Errorf("copies: %s", words(a))
		}
	}
	if !slices.Equal(b.w.Events(), events) || len(b.w.Issued()) != issued {
		t.Error("asking is told as something else")
	}
	none := begun(t, c)
	if a := none.must(t, copies(), api.OK); !sameAnswer(a, api.Answer{}) {
		t.Errorf("copies: %s", words(a))
	}
}
