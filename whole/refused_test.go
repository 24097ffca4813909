package whole_test

import (
	"math"
	"slices"
	"strings"
	"testing"

	"hearsay/api"
	"hearsay/world"
)

// reason is why a step is refused, with the errors that may tell it; what has it is no step, if there is nothing for it just now.
type reason struct {
	what  string
	steps []api.Step
	errs  []api.Errno
}

// shadow is a world to which all is done but what is refused. Of that something is asked only, so that it has as many steps.
type shadow struct {
	w     *world.World
	taken map[int]bool // steps at which a copy was refused; here it was lost
}

func newShadow(p *play) *shadow {
	w, err := world.New(p.c)
	if err != api.OK {
		p.fail("New: error %d", int(err))
	}
	return &shadow{w, map[int]bool{}}
}

// do does a step that some number has.
func (x *shadow) do(s api.Step, a api.Answer, step int) {
	for x.w.Steps() < step {
		x.w.Do(copies())
	}
	switch {
	case a.Err == api.OK:
		x.w.Do(s)
	case len(a.Copies) > 0:
		x.taken[step] = true
		x.w.Do(drop(s.N))
	default:
		x.w.Do(copies())
	}
}

// watchRefused: P0.7: what is refused changes nothing but the number of steps; but a copy that its receiver refuses is off the way, which is an event.
func (x *shadow) watchRefused(p *play, before moment, s api.Step, a api.Answer) {
	p.t.Helper()
	if s.Kind != 0 || p.now.step > 0 {
		x.do(s, a, p.now.step)
	}
	x.wantSame(p)
	if a.Err == api.OK {
		return
	}
	under, events := before.under, before.events
	if len(a.Copies) > 0 {
		c := a.Copies[0]
		if s.Kind != api.StepDeliver || c.Num != s.N {
			p.fail("%s is refused, and tells of copies", words(told(s, a)))
		}
		under = slices.DeleteFunc(slices.Clone(under), func(o api.Copy) bool { return o.Num == c.Num })
		events = append(slices.Clone(events), api.Event{Step: p.now.step, Kind: api.EventDelivered, Copy: c.Num, From: c.From, To: c.To, Sent: c.Sent, Bad: c.Bad})
		p.saw["copies that were refused"]++
	}
	p.wantUnchanged(before, s, a, under, events)
}

// wantUnchanged: all is as it was, but for these copies under way and these events.
func (p *play) wantUnchanged(before moment, s api.Step, a api.Answer, under []api.Copy, events []api.Event) {
	p.t.Helper()
	if !slices.EqualFunc(p.now.under, under, sameCopy) || !slices.Equal(p.now.events, events) || !slices.EqualFunc(p.now.issued, before.issued, sameOp) || len(p.now.looks) != len(before.looks) {
		p.fail("%s: copies, events or operations are others than they were, or sites", words(told(s, a)))
	}
	for site, l := range p.now.looks {
		if !sameLook(l, before.looks[site]) {
			p.fail("%s: site %d is %s; it was %s", words(told(s, a)), site, words(l), words(before.looks[site]))
		}
	}
	p.saw["refused"]++
}

// wantSame: the shadow tells the same, the numbers of copies too.
func (x *shadow) wantSame(p *play) {
	p.t.Helper()
	events := x.w.Events()
	for i, e := range events {
		if x.taken[e.Step] && e.Kind == api.EventDropped {
			events[i].Kind = api.EventDelivered
		}
	}
	if !slices.Equal(events, p.now.events) || !slices.Equal(x.w.Sites(), p.w.Sites()) || !slices.EqualFunc(x.w.Issued(), p.now.issued, sameOp) {
		p.fail("without what was refused there are other events, sites or operations")
	}
	for site, l := range p.now.looks {
		if other := (look{x.w.Do(text(site)).Text, x.w.Do(sight(site)).Sight}); !sameLook(l, other) {
			p.fail("site %d is %s; without what was refused %s", site, words(l), words(other))
		}
	}
	if !slices.EqualFunc(x.w.Do(copies()).Copies, p.now.under, sameCopy) {
		p.fail("without what was refused other copies are under way")
	}
}

// noSites is numbers of which there is no site.
func (p *play) noSites() []int {
	return []int{-1, 0, len(p.w.Sites()) + 1, api.MaxSites + 1, math.MaxInt, math.MinInt, 1 + 1<<32}
}

// each makes a step of each of some numbers.
func each(numbers []int, makers ...func(int) api.Step) []api.Step {
	var l []api.Step
	for _, n := range numbers {
		for _, make := range makers {
			l = append(l, make(n))
		}
	}
	return l
}

// atSites is why steps are refused for the site that they name.
func (p *play) atSites() []reason {
	next := len(p.w.Sites()) + 1
	edits := []func(int) api.Step{
		func(site int) api.Step { return insert(site, 0, "x") },
		func(site int) api.Step { return remove(site, 0, 1) },
		func(site int) api.Step { return join(next, site) },
		leave,
	}
	all := append([]func(int) api.Step{stop, text, sight}, edits...)
	if next > api.MaxSites {
		edits = slices.Delete(edits, 2, 3)
	}
	var exists []api.Step
	for _, sponsor := range p.is(idle, active, leaving) {
		exists = append(exists, each(p.w.Sites(), func(site int) api.Step { return join(site, sponsor) })...)
	}
	noNumbers := func(site int) api.Step { return join(site, p.is(active)[0]) }
	return []reason{
		{"no such site", each(p.noSites(), all...), []api.Errno{api.ErrNone}},
		{"a stopped site", each(p.is(stopped), all...), []api.Errno{api.ErrGone}},
		{"an idle site", each(p.is(idle), edits...), []api.Errno{api.ErrIdle}},
		{"a site that leaves", each(p.is(leaving), edits...), []api.Errno{api.ErrLeft}},
		{"a site that there is", exists, []api.Errno{api.ErrExists}},
		{"no number of a site", each([]int{math.MinInt, -1, 0, api.MaxSites + 1, 1 + 1<<32}, noNumbers), []api.Errno{api.ErrArg}},
	}
}

// edits is why edits of a live site are refused for what they are.
func (p *play) edits() []reason {
	site := pick(p.chance, p.is(active)...)
	n := len([]rune(p.shows(site)))
	return []reason{
		{"no text", []api.Step{insert(site, 0, ""), insert(site, 0, "\xff"), insert(site, 0, "aé\xc3"), insert(site, -1, "\xed\xa0\x80")}, []api.Errno{api.ErrText}},
		{"a long text", []api.Step{insert(site, 0, strings.Repeat("é", api.MaxText+1)), insert(site, -1, strings.Repeat("x", api.MaxText+1))}, []api.Errno{api.ErrLong}},
		{"no place", []api.Step{
			insert(site, -1, "x"), insert(site, n+1, "x"), insert(site, math.MaxInt, "x"), insert(site, math.MinInt, "x"), insert(site, 1<<32, "x"),
			remove(site, -1, 1), remove(site, 0, 0), remove(site, 0, -1), remove(site, 0, n+1), remove(site, n, 1), remove(site, -1, n+1),
			remove(site, 1, math.MaxInt), remove(site, math.MaxInt, math.MaxInt), remove(site, math.MinInt, math.MinInt), remove(site, 1, math.MinInt),
		}, []api.Errno{api.ErrIndex}},
	}
}

// ofCopies is why steps are refused for the copy that they name, or for what they would do to it.
func (p *play) ofCopies() []reason {
	under := p.under()
	none := []int{-1, 0, math.MinInt, math.MaxInt, 1 << 32, len(p.w.Events()) + 9}
	var bad, args, exists []api.Step
	for _, e := range p.w.Events() {
		if !slices.ContainsFunc(under, func(c api.Copy) bool { return c.Num == e.Copy }) && p.chance.Intn(20) == 0 {
			none = append(none, e.Copy)
		}
	}
	for _, c := range under {
		n := len(c.Data)
		if c.Bad {
			exists = append(exists, cut(c.Num, 0), cut(c.Num, n-1), cut(c.Num, n/2), alter(c.Num, 0, someOther(c.Data, 0)...), alter(c.Num, n/2, someOther(c.Data, n/2)...))
			exists = slices.DeleteFunc(exists, func(s api.Step) bool {
				return s.N == c.Num && (s.Kind == api.StepCut && (s.At < 0 || s.At >= n) || s.Kind == api.StepAlter && s.At >= n)
			})
			if p.made[c.To] != stopped {
				bad = append(bad, deliver(c.Num))
			}
		}
		args = append(args, alter(c.Num, 0), alter(c.Num, 0, 1, 2, 3, 4, 5), alter(c.Num, -1, 1), alter(c.Num, n, 1), alter(c.Num, n-1, 1, 2), alter(c.Num, math.MaxInt, 1), alter(c.Num, math.MinInt, 1),
			cut(c.Num, -1), cut(c.Num, n), cut(c.Num, n+1), cut(c.Num, math.MaxInt), cut(c.Num, math.MinInt))
		if n > 3 {
			args = append(args, alter(c.Num, 0, c.Data[:4]...), alter(c.Num, n-1, c.Data[n-1]))
		}
	}
	return []reason{
		{"no such copy", each(none, deliver, drop, double, func(n int) api.Step { return alter(n, 0, 1) }, func(n int) api.Step { return cut(n, 0) }), []api.Errno{api.ErrNone}},
		{"no change of a copy", args, []api.Errno{api.ErrArg}},
		{"a copy that was altered or cut off", exists, []api.Errno{api.ErrExists}},
		{"a bad copy arrives", bad, []api.Errno{api.ErrShort, api.ErrLong, api.ErrSum}},
		{"no kind of step", each([]int{0, -1, 15, 99, math.MinInt, math.MaxInt, 1 + 1<<32}, func(kind int) api.Step { return api.Step{Kind: kind, Site: 1, N: 1, Text: "x"} }), []api.Errno{api.ErrStep}},
	}
}

// someOther is a byte that does not stand at a place.
func someOther(data []byte, at int) []byte {
	if at >= len(data) {
		return []byte{1}
	}
	return []byte{data[at] ^ 0x55}
}

// refuse does some steps of each reason that there is just now.
func (p *play) refuse() {
	p.t.Helper()
	for _, reasons := range []func() []reason{p.atSites, p.edits, p.ofCopies} {
		for _, r := range reasons() {
			for _, i := range p.chance.Perm(len(r.steps))[:min(len(r.steps), 3)] {
				s := r.steps[i]
				if a := p.do(s); !slices.Contains(r.errs, a.Err) {
					p.fail("%s: %s: error %d; want one of %v", r.what, words(told(s, a)), int(a.Err), r.errs)
				}
				p.saw[r.what]++
			}
		}
	}
}

// TestRefused: P0.7: steps of each kind, refused for each reason there is, among those of many plays.
func TestRefused(t *testing.T) {
	t.Parallel()
	saw := map[string]int{}
	for seed := range rounds(32) {
		m := everyday(2 + seed%15)
		m.harms, m.stops, m.leaves, m.late = 12, 2, 2, seed%2 == 0
		var x *shadow
		p := newPlay(t, 7000+seed, someConfig(seeded(7000+seed)), m, saw, func(p *play, before moment, s api.Step, a api.Answer) {
			p.t.Helper()
			if x == nil {
				x = newShadow(p)
			}
			x.watchRefused(p, before, s, a)
		})
		for range 6 {
			p.refuse()
			p.run(20 + m.sites)
		}
		p.refuse()
	}
	wantSaw(t, saw, rounds(100), "no such site", "a stopped site", "an idle site", "a site that leaves", "a site that there is", "no number of a site", "no text", "a long text", "no place",
		"no such copy", "no change of a copy", "a copy that was altered or cut off", "a bad copy arrives", "no kind of step")
}

// TestRefusedLong: P0.7: a delete of more runs than one may have.
func TestRefusedLong(t *testing.T) {
	t.Parallel()
	p := newPlay(t, 7700, leastConfig(), everyday(2), map[string]int{})
	for i := range api.MaxGone + 1 {
		p.do(insert(1, i, "ab")) // the second one goes behind all others, so that the first ones are no run
	}
	p.observe()
	before, s := p.now, remove(1, 0, api.MaxGone+1)
	if a := p.do(s); a.Err != api.ErrLong {
		t.Errorf("error %d; want %d", int(a.Err), int(api.ErrLong))
	}
	p.observe()
	p.wantUnchanged(before, s, api.Answer{}, before.under, before.events)
	if a := p.do(remove(1, 0, api.MaxGone)); a.Err != api.OK || len(a.Op.Gone) != api.MaxGone {
		t.Errorf("error %d, %d runs", int(a.Err), len(a.Op.Gone))
	}
}
