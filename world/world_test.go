package world_test

import (
	"math"
	"slices"
	"testing"

	"hearsay/api"
	"hearsay/world"
)

// TestExamples: all rows of the chapter's examples.
func TestExamples(t *testing.T) {
	b := begun(t, c)
	if o := b.must(t, insert(1, 0, "héy"), api.OK).Op; o.Dot != (api.Dot{Site: 1, Seq: 2}) || o.Kind != api.OpInsert || o.Text != "héy" {
		t.Errorf("inserted: %+v", o)
	}
	b.wantText(t, 1, "héy")

	b.must(t, insert(2, 0, "x"), api.ErrNone)
	b.must(t, insert(1, 9, "x"), api.ErrIndex)
	b.must(t, api.Step{Kind: 99}, api.ErrStep)

	if o := b.must(t, join(2, 1), api.OK).Op; o.Dot != (api.Dot{Site: 1, Seq: 3}) || o.Kind != api.OpJoin || o.Site != 2 {
		t.Errorf("joined: %+v", o)
	}
	b.must(t, join(2, 1), api.ErrExists)
	b.wantText(t, 2, "")

	if a := b.must(t, tick(), api.OK); !sameAnswer(a, api.Answer{}) {
		t.Errorf("a tick tells %s", words(a))
	}
	b.wantCopies(t, way{1, 1, 2, 8})

	b.must(t, deliver(1), api.OK)
	b.wantText(t, 2, "héy")
	b.must(t, deliver(1), api.ErrNone)

	want := []api.Event{
		{Step: 8, Kind: api.EventSent, Copy: 1, From: 1, To: 2, Sent: 8},
		{Step: 10, Kind: api.EventDelivered, Copy: 1, From: 1, To: 2, Sent: 8},
		{Step: 10, Kind: api.EventSent, Copy: 2, From: 2, To: 1, Sent: 10},
	}
	if got := b.w.Events(); !slices.Equal(got, want) {
		t.Errorf("events %v; want %v", got, want)
	}

	b.must(t, alter(2, 0, "\x7f"), api.OK)
	b.must(t, deliver(2), api.ErrLong) // the first byte is of the length

	b.must(t, stop(2), api.OK)
	b.must(t, tick(), api.OK)
	b.wantCopies(t, way{3, 1, 2, 16})
	b.must(t, deliver(3), api.OK)
	b.wantLast(t, api.Event{Step: 18, Kind: api.EventDropped, Copy: 3, From: 1, To: 2, Sent: 16})
}

// TestNew: P21.1: a new world has the founder, whose Join is all that was issued, and nothing else.
func TestNew(t *testing.T) {
	b := begun(t, c)
	founding := api.Op{Kind: api.OpJoin, Dot: api.Dot{Site: 1, Seq: 1}, Site: 1}
	if l := b.w.Issued(); len(l) != 1 || !sameOp(l[0], founding) {
		t.Errorf("issued: %+v", l)
	}
	if !slices.Equal(b.w.Sites(), []int{1}) || b.w.Steps() != 0 || len(b.w.Events()) != 0 {
		t.Errorf("sites %v, %d steps, events %v", b.w.Sites(), b.w.Steps(), b.w.Events())
	}
	b.wantCopies(t)
	b.wantText(t, 1, "")
	want := api.Sight{Site: 1, Active: true, Vector: api.Vector{{Site: 1, Seq: 1}}, Log: 1, Members: []int{1}, Epoch: 1}
	if s := b.must(t, sight(1), api.OK).Sight; !sameSight(s, want) {
		t.Errorf("the founder: %+v", s)
	}
	b.wantAll(t)

	// Two worlds have nothing to do with each other.
	one, two := begun(t, c), begun(t, c)
	one.must(t, insert(1, 0, "one"), api.OK)
	one.must(t, join(2, 1), api.OK)
	one.must(t, tick(), api.OK)
	two.wantAll(t)
	two.must(t, join(2, 1), api.OK)
	two.must(t, stop(1), api.OK)
	one.wantText(t, 1, "one")
	one.wantAll(t)
}

// TestConfigs: P21.1, W3: each field of a Config at its limits and beside them, alone and with others.
func TestConfigs(t *testing.T) {
	fields := []struct {
		name        string
		of          func(*api.Config) *int
		least, most int
	}{
		{"Hold", func(c *api.Config) *int { return &c.Hold }, 0, 256},
		{"Window", func(c *api.Config) *int { return &c.Window }, 1, 64},
		{"Push", func(c *api.Config) *int { return &c.Push }, 1, 256},
		{"Min", func(c *api.Config) *int { return &c.Min }, 1, 8},    // Max is 8
		{"Max", func(c *api.Config) *int { return &c.Max }, 2, 4096}, // Min is 2
		{"Keep", func(c *api.Config) *int { return &c.Keep }, 0, 1048576},
	}
	for _, f := range fields {
		numbers := slices.Concat(edges, []int{f.least - 1, f.least, f.least + 1, f.most - 1, f.most, f.most + 1})
		for _, n := range numbers {
			x := c
			*f.of(&x) = n
			w, err := world.New(x)
			if n >= f.least && n <= f.most {
				if err != api.OK || w == nil {
					t.Errorf("%s %d: error %d", f.name, n, int(err))
					continue
				}
				b := both{w, newModel(x)}
				b.must(t, join(2, 1), api.OK)
				b.must(t, insert(1, 0, "x"), api.OK)
				b.must(t, tick(), api.OK)
				b.must(t, deliver(1), api.OK)
				b.wantText(t, 2, "x")
				b.wantAll(t)
			} else if w != nil || err != api.ErrArg {
				t.Errorf("%s %d: error %d", f.name, n, int(err))
			}
		}
	}
	for _, x := range []api.Config{{}, {Hold: 8, Window: 2, Push: 3, Min: 9, Max: 8, Keep: 1}, {Hold: -1, Window: -1, Push: -1, Min: -1, Max: -1, Keep: -1}, {Window: 1, Push: 1, Min: 0, Max: 0}} {
		if w, err := world.New(x); w != nil || err != api.ErrArg {
			t.Errorf("New(%v): error %d", x, int(err))
		}
	}
	for _, x := range []api.Config{{Window: 1, Push: 1, Min: 1, Max: 1}, {Hold: 256, Window: 64, Push: 256, Min: 4096, Max: 4096, Keep: 1048576}} {
		begun(t, x).must(t, insert(1, 0, "x"), api.OK)
	}
}

// everyStep is a step of each kind that there is, and such of kinds that there are not, about the site and the copy of a number.
func everyStep(n int) []api.Step {
	l := []api.Step{
		insert(n, 0, "x"), remove(n, 0, 1), join(n, 1), join(1, n), leave(n), stop(n), tick(n), deliver(n), drop(n), double(n),
		alter(n, 0, "x"), alter(1, n, "x"), cut(n, 0), cut(1, n), text(n), sight(n), copies(),
	}
	for _, kind := range noKinds {
		l = append(l, api.Step{Kind: kind, Site: n, Peer: n, At: n, N: n, Text: "x", Data: []byte("x"), Draws: []int{n}})
	}
	return l
}

var noKinds = []int{math.MinInt, -1<<32 + 1, -6, -1, 0, 15, 16, 99, 1 << 31, 1<<32 + 6, math.MaxInt}

// TestNil: W1, W8: to a nil world nothing happens.
func TestNil(t *testing.T) {
	var w *world.World
	for _, n := range edges {
		for _, s := range everyStep(n) {
			if a := w.Do(s); !sameAnswer(a, api.Answer{Err: api.ErrArg}) {
				t.Fatalf("%s: %s", words(s), words(a))
			}
		}
	}
	if w.Steps() != 0 || len(w.Events()) != 0 || len(w.Sites()) != 0 || len(w.Issued()) != 0 {
		t.Error("a nil world tells something")
	}
}

// TestZero: P21.2, W1, W8: a zero world has no site, and does no step.
func TestZero(t *testing.T) {
	for _, w := range []*world.World{{}, new(world.World)} {
		for _, n := range edges {
			for _, s := range everyStep(n) {
				if a := w.Do(s); !sameAnswer(a, api.Answer{Err: api.ErrStep}) {
					t.Fatalf("%s: %s", words(s), words(a))
				}
				if w.Steps() != 0 || len(w.Events()) != 0 || len(w.Sites()) != 0 || len(w.Issued()) != 0 {
					t.Fatal("a zero world tells something")
				}
			}
		}
	}
}

// TestNoKinds: P21.2: kinds that there are not are steps that are refused, whatever else they say.
func TestNoKinds(t *testing.T) {
	b := rich(t)
	for _, kind := range noKinds {
		for _, s := range []api.Step{{}, insert(1, 0, "x"), join(9, 1), stop(1), deliver(1), tick(1)} {
			s.Kind = kind
			was := b.w.Steps()
			if a := b.must(t, s, api.ErrStep); !sameAnswer(a, api.Answer{Err: api.ErrStep}) || b.w.Steps() != was+1 {
				t.Fatalf("%s: %s", words(s), words(a))
			}
		}
	}
	b.wantAll(t)
}

// rich is a world with something of everything: the sites 1, 2, 3 are active, 4 leaves, 5 is idle, 6 is stopped; copies are under way, one altered, one cut off, one doubled, some from the stopped site and to it.
func rich(t *testing.T) both {
	t.Helper()
	b := joined(t, c, 4)
	b.must(t, insert(1, 0, "héllo"), api.OK)
	b.must(t, insert(2, 0, "wörld"), api.OK)
	b.must(t, remove(1, 1, 2), api.OK)
	b.must(t, join(6, 1), api.OK)
	b.must(t, tick(3, 0, 0, 0), api.OK) // 1 draws 6
	for _, x := range b.m.copies() {
		if x.To == 6 {
			b.must(t, deliver(x.Num), api.OK)
		}
	}
	b.must(t, tick(3, 1, 1, 1, 0), api.OK)
	b.must(t, stop(6), api.OK)
	b.must(t, join(5, 1), api.OK)
	b.must(t, leave(4), api.OK)
	b.must(t, tick(3, 1, 0, 0), api.OK)
	under := b.m.copies()
	last := under[len(under)-1].Num
	b.must(t, alter(last, 9, "\xf0\xf1"), api.OK)
	b.must(t, cut(last-1, 7), api.OK)
	b.must(t, double(last), api.OK)
	b.wantAll(t)
	for site, want := range []string{1: "active", 2: "active", 3: "active", 4: "leaving", 5: "idle", 6: "stopped"} {
		if got := b.state(site); want != "" && got != want {
			t.Fatalf("site %d is %s", site, got)
		}
	}
	if under := b.m.copies(); !b.under(6, 0) || !b.under(0, 6) || !b.under(0, 5) || len(under) < 8 {
		t.Fatalf("under way: %v", under)
	}
	return b
}

// state is what a site is at, in a word.
func (b both) state(site int) string {
	h := b.m.home(site)
	if h.missing() != api.OK {
		return map[api.Errno]string{api.ErrNone: "none", api.ErrGone: "stopped"}[h.missing()]
	}
	switch s := h.site.Sight(); {
	case !s.Active:
		return "idle"
	case s.Leaving:
		return "leaving"
	}
	return "active"
}

// under tells whether a copy from one to another is under way; 0 is any one.
func (b both) under(from, to int) bool {
	return slices.ContainsFunc(b.m.copies(), func(x api.Copy) bool {
		return (from == 0 || from == x.From) && (to == 0 || to == x.To)
	})
}

// replayed is a world to which steps are done, and what they answer.
func replayed(t *testing.T, c api.Config, steps []api.Step) (*world.World, []api.Answer) {
	t.Helper()
	w, err := world.New(c)
	wantErr(t, "New", err, api.OK)
	var answers []api.Answer
	for _, s := range steps {
		answers = append(answers, w.Do(s))
	}
	return w, answers
}

// lookRound is steps that ask all that can be asked.
func lookRound() []api.Step {
	l := []api.Step{copies()}
	for site := range 18 {
		l = append(l, text(site), sight(site))
	}
	return l
}

// wantSameWorlds holds all that two worlds tell against each other.
func wantSameWorlds(t *testing.T, about string, one, two *world.World) {
	t.Helper()
	for _, s := range lookRound() {
		if a, b := one.Do(s), two.Do(s); !sameAnswer(a, b) {
			t.Fatalf("%s: %s: %s; %s", about, words(s), words(a), words(b))
		}
	}
	if one.Steps() != two.Steps() || !slices.Equal(one.Events(), two.Events()) || !slices.Equal(one.Sites(), two.Sites()) || !slices.EqualFunc(one.Issued(), two.Issued(), sameOp) {
		t.Fatalf("%s: %d, %d steps; events %s; %s", about, one.Steps(), two.Steps(), words(one.Events()), words(two.Events()))
	}
}

// TestFieldsUnread: P21.2: what a row does not name is not looked at, whatever stands there.
func TestFieldsUnread(t *testing.T) {
	past := rich(t).m.past
	number := func(s *api.Step, f func(*api.Step) *int, n int) { *f(s) = n }
	site := func(s *api.Step) *int { return &s.Site }
	peer := func(s *api.Step) *int { return &s.Peer }
	unit := func(s *api.Step) *int { return &s.Unit }
	at := func(s *api.Step) *int { return &s.At }
	n := func(s *api.Step) *int { return &s.N }
	one := joined(t, c, 4).m.past
	under := rich(t).m.copies()[0].Num
	type field = func(*api.Step) *int
	for _, x := range []struct {
		past               []api.Step
		s                  api.Step
		unread             []field
		text, draws, bytes bool // these are not read
	}{
		{past, insert(1, 2, "x"), []field{peer, unit, n}, false, true, true},
		{past, remove(1, 1, 2), []field{peer, unit}, true, true, true},
		{past, join(7, 1), []field{unit, at, n}, true, true, true},
		{past, join(7, 4), []field{unit, at, n}, true, true, true},
		{past, leave(2), []field{peer, unit, at, n}, true, true, true},
		{past, stop(2), []field{peer, unit, at, n}, true, true, true},
		{past, tick(1, 2), []field{site, peer, unit, at, n}, true, false, true},
		{one, tick(), []field{site, peer, unit, at, n}, true, false, true},
		{past, deliver(under), []field{site, peer, unit, at}, true, true, true},
		{past, drop(under), []field{site, peer, unit, at}, true, true, true},
		{past, double(under), []field{site, peer, unit, at}, true, true, true},
		{past, alter(under, 3, "zy"), []field{site, peer, unit}, true, true, false},
		{past, cut(under, 3), []field{site, peer, unit}, true, true, true},
		{past, text(1), []field{peer, unit, at, n}, true, true, true},
		{past, sight(1), []field{peer, unit, at, n}, true, true, true},
		{past, copies(), []field{site, peer, unit, at, n}, true, true, true},
	} {
		_, answers := replayed(t, c, append(slices.Clone(x.past), x.s))
		want := answers[len(answers)-1]
		wantErr(t, words(x.s), want.Err, map[bool]api.Errno{true: api.ErrLeft}[x.s.Kind == api.StepJoin && x.s.Peer == 4])
		var all []api.Step
		for _, with := range []int{math.MinInt, -1, 0, 1, 2, 3, 99, math.MaxInt} {
			s := x.s
			for _, f := range x.unread {
				one := x.s
				number(&one, f, with)
				number(&s, f, with)
				all = append(all, one)
			}
			if x.text {
				s.Text = "any text\xff"
			}
			if x.draws {
				s.Draws = []int{with, 1}
			}
			if x.bytes {
				s.Data = []byte("bytes")
			}
			all = append(all, s)
		}
		for _, s := range all {
			w, answers := replayed(t, c, append(slices.Clone(x.past), s))
			if got := answers[len(answers)-1]; !sameAnswer(got, want) {
				t.Fatalf("%s: %s; want %s", words(s), words(got), words(want))
			}
			w.Do(tick())
			again, _ := replayed(t, c, append(slices.Clone(x.past), x.s, tick()))
			wantSameWorlds(t, words(s), w, again)
		}
	}
}

// TestSteps: P21.5: refused steps are counted too, and a step's number is how many came ahead of it.
func TestSteps(t *testing.T) {
	b := begun(t, c)
	steps := []api.Step{join(2, 1), insert(9, 0, "x"), insert(1, 5, "x"), join(2, 1), {Kind: 77}, {}, deliver(4), text(3), sight(1), copies(), stop(-1), leave(0)}
	for i, s := range steps {
		b.do(t, s)
		if n := b.w.Steps(); n != i+1 {
			t.Fatalf("%d steps behind %d", n, i+1)
		}
	}
	b.must(t, tick(), api.OK)
	b.must(t, deliver(2), api.ErrNone)
	b.must(t, double(1), api.OK)
	b.wantLast(t,
		api.Event{Step: 12, Kind: api.EventSent, Copy: 1, From: 1, To: 2, Sent: 12},
		api.Event{Step: 14, Kind: api.EventSent, Copy: 2, From: 1, To: 2, Sent: 12})
	b.wantCopies(t, way{1, 1, 2, 12}, way{2, 1, 2, 12})
}

// TestCopied: W8: a world that is copied as a value goes on as the one that it was.
func TestCopied(t *testing.T) {
	b := rich(t)
	w := *b.w
	next := both{&w, b.m}
	next.wantAll(t)
	next.must(t, insert(1, 0, "on"), api.OK)
	next.must(t, tick(1, 1, 1, 1), api.OK)
	next.must(t, join(9, 2), api.OK)
	next.wantAll(t)
	var zero world.World
	again := zero
	if a := again.Do(tick()); a.Err != api.ErrStep || again.Steps() != 0 {
		t.Errorf("a zero world: %s", words(a))
	}
}
