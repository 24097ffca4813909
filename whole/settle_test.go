package whole_test

import (
	"slices"
	"testing"

	"hearsay/api"
	"hearsay/fair"
)

// counter counts the fair windows of some sites as they go by.
type counter struct {
	live    []int
	begun   int // the step at which the first one begins
	from    int // and the one that goes on
	missing map[[2]int]struct{}
	count   int
}

func newCounter(live []int, from int) *counter {
	c := &counter{live: live, begun: from, missing: map[[2]int]struct{}{}}
	c.begin(from)
	return c
}

// begin lets a window begin, in which nothing has arrived as yet.
func (c *counter) begin(from int) {
	c.from = from
	for _, a := range c.live {
		for _, b := range c.live {
			if a != b {
				c.missing[[2]int{a, b}] = struct{}{}
			}
		}
	}
}

// arrived takes in that a copy was delivered at a step.
func (c *counter) arrived(x api.Copy, step int) {
	if x.Bad || x.Sent < c.from || len(c.missing) == 0 {
		return
	}
	delete(c.missing, [2]int{x.From, x.To})
	if len(c.missing) == 0 {
		c.count++
		c.begin(step + 1)
	}
}

// quietly does a step without an edit, a join, a leave and a stop.
func (p *play) quietly(c *counter, s api.Step) api.Answer {
	p.t.Helper()
	step := p.w.Steps()
	a := p.do(s)
	if s.Kind == api.StepDeliver && len(a.Copies) == 1 {
		c.arrived(a.Copies[0], step)
	}
	return a
}

// A way lets fair windows go by, until there are so many.
type way func(p *play, c *counter, many int)

// byChance: anything may become of any copy.
func byChance(p *play, c *counter, many int) {
	p.t.Helper()
	p.m = p.m.quiet()
	for n := 0; c.count < many; n++ {
		if n > 4000*many {
			p.fail("%d fair windows only, behind %d steps", c.count, n)
		}
		p.quietly(c, p.next())
	}
}

// oneByOne: of each site one frame arrives at each other one, as soon as it was sent; all else is lost.
func oneByOne(p *play, c *counter, many int) {
	p.t.Helper()
	for c.count < many {
		for _, pair := range p.pairs(c.live) {
			from := p.w.Steps()
			p.quietly(c, tick(p.drawing(pair[0], pair[1])...))
			arrived := false
			for _, x := range p.under() {
				if x.From == pair[0] && x.To == pair[1] && x.Sent >= from && !arrived {
					arrived = true
					p.quietly(c, deliver(x.Num))
				}
			}
			p.loseAll(c, 0)
		}
	}
}

// atOnce: each site speaks to each other one, before any of these frames arrives; then one of each arrives, and all else is lost, answers too. So each knows as little as may be of what the others have.
func atOnce(p *play, c *counter, many int) {
	p.t.Helper()
	for c.count < many {
		p.round(c)
		p.loseAll(c, 0)
	}
}

// roughly: the same, but much that is late, doubled, altered and cut off arrives beside it, in this window or in a later one.
func roughly(p *play, c *counter, many int) {
	p.t.Helper()
	for c.count < many {
		p.round(c)
		for range 2 * len(c.live) {
			under := p.under()
			p.quietly(c, pick(p.chance, p.arrive, p.arrive, p.double, p.harm)(under))
		}
		p.loseAll(c, 3*len(c.live))
	}
}

// again: the same, but what each said ahead of the first window arrives once more behind each of them: so each is told of each that it had less.
func again(p *play, c *counter, many int) {
	p.t.Helper()
	old := p.oldest(c.live)
	for c.count < many {
		p.round(c)
		for _, x := range p.under() {
			if !old[x.Num] {
				p.quietly(c, drop(x.Num))
				continue
			}
			a := p.quietly(c, double(x.Num))
			p.quietly(c, deliver(a.Copies[0].Num))
		}
		p.loseBut(c, old)
	}
}

// oldest is, of each site for each other one, the copy under way that was sent first and is no bad one.
func (p *play) oldest(live []int) map[int]bool {
	old, there := map[int]bool{}, map[[2]int]bool{}
	for _, x := range p.under() {
		pair := [2]int{x.From, x.To}
		if !x.Bad && !there[pair] && slices.Contains(live, x.From) && slices.Contains(live, x.To) {
			old[x.Num], there[pair] = true, true
		}
	}
	return old
}

// loseBut loses all copies but some.
func (p *play) loseBut(c *counter, stay map[int]bool) {
	for _, x := range p.under() {
		if !stay[x.Num] {
			p.quietly(c, drop(x.Num))
		}
	}
}

// round is what atOnce says, but that nothing is lost.
func (p *play) round(c *counter) {
	p.t.Helper()
	from := p.w.Steps()
	for turn := range len(c.live) - 1 {
		p.quietly(c, tick(p.turn(c.live, turn)...))
	}
	under := p.under()
	p.chance.Shuffle(len(under), func(i, k int) { under[i], under[k] = under[k], under[i] })
	said := map[[2]int]int{}
	for _, x := range under {
		if x.Sent >= from {
			said[[2]int{x.From, x.To}] = x.Num
		}
	}
	for _, pair := range p.pairs(c.live) {
		if num, spoke := said[pair]; spoke {
			p.quietly(c, deliver(num))
		}
	}
}

// turn is draws by which each site draws the one that stands so many behind it.
func (p *play) turn(live []int, turn int) []int {
	var draws []int
	for i, site := range live {
		others := slices.DeleteFunc(p.sight(site).Members, func(m int) bool { return m == site })
		draws = append(draws, slices.Index(others, live[(i+1+turn)%len(live)]))
	}
	return draws
}

// pairs is all pairs of sites, in some order.
func (p *play) pairs(live []int) [][2]int {
	var l [][2]int
	for _, a := range live {
		for _, b := range live {
			if a != b {
				l = append(l, [2]int{a, b})
			}
		}
	}
	p.chance.Shuffle(len(l), func(i, k int) { l[i], l[k] = l[k], l[i] })
	return l
}

// loseAll loses all copies but so many.
func (p *play) loseAll(c *counter, but int) {
	under := p.under()
	p.chance.Shuffle(len(under), func(i, k int) { under[i], under[k] = under[k], under[i] })
	for _, x := range under[min(but, len(under)):] {
		p.quietly(c, drop(x.Num))
	}
}

// premises brings about what P0.3 asks for: who is idle or leaves is stopped, what stopped ones said is lost, and who is not a member for each other live one comes to be one, or is stopped.
func (p *play) premises() {
	p.t.Helper()
	p.plan = nil
	for _, site := range p.is(idle, leaving) {
		p.do(stop(site))
	}
	p.loseStopped()
	for range 6 {
		if p.stranger() == 0 {
			return
		}
		p.do(p.tick(nil))
		for _, c := range p.under() {
			p.do(pick(p.chance, deliver(c.Num), deliver(c.Num), drop(c.Num)))
		}
	}
	for site := p.stranger(); site > 0; site = p.stranger() {
		p.saw["strangers"]++
		p.do(stop(site))
		p.loseStopped()
	}
}

// loseStopped loses what stopped sites said.
func (p *play) loseStopped() {
	p.t.Helper()
	for _, c := range p.under() {
		if p.made[c.From] == stopped {
			p.do(drop(c.Num))
		}
	}
}

// stranger is the live site that is unknown to the most, or knows the fewest; 0: each is a member for each.
func (p *play) stranger() int {
	live, most, found := p.is(active), 0, 0
	for _, site := range live {
		unknown := 0
		for _, other := range live {
			if !slices.Contains(p.sight(other).Members, site) {
				unknown++
			}
			if !slices.Contains(p.sight(site).Members, other) {
				unknown++
			}
		}
		if unknown > most {
			most, found = unknown, site
		}
	}
	return found
}

// part lets the live sites edit, while hardly anything goes round.
func (p *play) part(edits int) {
	p.t.Helper()
	for range edits {
		p.do(p.insert(nil))
		p.do(pick(p.chance, p.delete(nil), p.tick(nil), p.arrive(p.under())))
	}
}

// wantPremises: they hold.
func (p *play) wantPremises() {
	p.t.Helper()
	if len(p.is(idle, leaving)) > 0 || p.stranger() > 0 {
		p.fail("the premises do not hold: %v, stranger %d", p.made, p.stranger())
	}
	for _, site := range p.is(active) {
		if s := p.sight(site); !s.Active || s.Leaving {
			p.fail("site %d is no live one: %s", site, words(s))
		}
	}
	for _, c := range p.under() {
		if p.made[c.From] == stopped {
			p.fail("a stopped site's copy is under way")
		}
	}
}

// still tells whether all live sites have the same vector.
func (p *play) still() bool {
	live := p.is(active)
	return !slices.ContainsFunc(live, func(site int) bool { return !slices.Equal(p.sight(site).Vector, p.sight(live[0]).Vector) })
}

// settle lets as many fair windows go by as Bound says, in some way, and then one more; behind each all must be as is promised.
func (p *play) settle(by way) {
	p.t.Helper()
	p.wantPremises()
	live, bound := p.is(active), fair.Bound(len(p.w.Issued()))
	if len(live) < 2 {
		p.saw["one site alone"]++
		return
	}
	if !p.still() {
		p.saw["sites that differ"]++
	}
	c := newCounter(live, p.w.Steps())
	by(p, c, bound)
	p.wantSettled(live)
	by(p, c, bound+1)
	p.wantSettled(live)
	p.wantForgotten(live)
	if got := fair.Windows(p.w.Events(), live, c.begun, p.w.Steps()); len(got) != c.count {
		p.fail("%d fair windows; counted %d", len(got), c.count)
	}
}

// wantSettled: P0.3: all live sites have the same vector and the same text.
func (p *play) wantSettled(live []int) {
	p.t.Helper()
	first, shows := p.sight(live[0]).Vector, p.shows(live[0])
	for _, site := range live {
		if v, shown := p.sight(site).Vector, p.shows(site); !slices.Equal(v, first) || shown != shows {
			p.fail("site %d has %v and shows %q; site %d has %v and shows %q", site, v, shown, live[0], first, shows)
		}
	}
	p.saw["settled"]++
}

// wantForgotten: P0.13: if all members are live, no log has more than may be kept.
func (p *play) wantForgotten(live []int) {
	p.t.Helper()
	for _, site := range live {
		if slices.ContainsFunc(p.sight(site).Members, func(m int) bool { return !slices.Contains(live, m) }) {
			return
		}
	}
	for _, site := range live {
		if n := p.sight(site).Log; n > p.c.Keep {
			p.fail("site %d keeps %d operations, more than %d", site, n, p.c.Keep)
		}
	}
	p.saw["forgotten"]++
	if p.c.Keep == 0 {
		p.saw["forgotten but for nothing"]++
	}
	if len(p.is(stopped)) > 0 {
		p.saw["forgotten, as others have left"]++
	}
}

// wayOf is a way that so many sites can go in a time.
func (p *play) wayOf() way {
	if len(p.is(active)) > 4 || len(p.w.Issued()) > 60 {
		return pick(p.chance, atOnce, roughly, again)
	}
	return pick(p.chance, byChance, oneByOne, atOnce, roughly, again)
}

// manySites is 2 to 16, but seldom many.
func manySites(seed int) int { return []int{2, 3, 4, 3, 5, 2, 7, 4, 6, 3, 9, 5, 12, 4, 16, 8}[seed%16] }

// TestSettles: P0.3, behind many scripts with joins, leaves, stops, drops, doubles, altered and cut copies.
func TestSettles(t *testing.T) {
	t.Parallel()
	saw := map[string]int{}
	for seed := range rounds(80) {
		m := everyday(manySites(seed))
		m.late, m.joins, m.leaves = seed%3 > 0, 14, 2
		c := someConfig(seeded(3000 + seed))
		if seed%3 == 0 {
			c = leastConfig()
		}
		p := newPlay(t, 3000+seed, c, m, saw)
		p.run(50 + 6*m.sites)
		p.premises()
		p.part(2 + p.chance.Intn(2*len(p.is(active))))
		p.settle(p.wayOf())
	}
	wantSaw(t, saw, rounds(60), "settled", "sites that differ")
	wantSaw(t, saw, rounds(8), "late images", "sponsors that stop", "leavers")
	wantSaw(t, saw, rounds(2), "sponsors that leave")
}

// TestSettlesLate: P0.3: where each window brings as little as may be, sites settle, and hardly any sooner than Bound says.
func TestSettlesLate(t *testing.T) {
	t.Parallel()
	for seed := range rounds(16) {
		c := leastConfig()
		c.Keep, c.Hold = pick(seeded(seed), 0, 3, 1000), pick(seeded(seed), 0, 1, 8)
		p := newPlay(t, 3300+seed, c, everyday(2+seed%3), map[string]int{})
		for site := 2; site <= p.m.sites; site++ {
			p.do(join(site, 1))
		}
		for len(p.is(idle)) > 0 || p.stranger() > 0 || !p.still() {
			p.meet(1)
		}
		p.meet(4) // each has heard of each, so that there are no images any more
		p.loseAll(newCounter(p.is(active), 0), 0)
		for turn := range p.m.sites - 1 {
			p.do(tick(p.turn(p.is(active), turn)...)) // this may arrive again and again
		}
		for range 30 {
			p.do(insert(1, 0, someText(p.chance)))
		}
		bound := fair.Bound(len(p.w.Issued()))
		w := newCounter(p.is(active), p.w.Steps())
		needed, by := 0, pick(p.chance, atOnce, again)
		for w.count < bound {
			if !p.still() {
				needed = w.count + 1
			}
			by(p, w, w.count+1)
		}
		p.wantSettled(p.is(active))
		if needed < bound-9 {
			t.Errorf("seed %d: settled behind %d fair windows; %d are the bound", seed, needed, bound)
		}
	}
}

// TestForgets: P0.13, behind scripts in which nobody stops that has not left.
func TestForgets(t *testing.T) {
	t.Parallel()
	saw := map[string]int{}
	for seed := range rounds(80) {
		m := everyday(manySites(seed + 5))
		m.late, m.joins, m.stops, m.leaves = seed%3 > 0, 14, 0, 1+2*(seed%3)
		c := someConfig(seeded(13000 + seed))
		if seed%3 == 0 {
			c = leastConfig()
		}
		p := newPlay(t, 13000+seed, c, m, saw)
		p.run(60 + 8*m.sites)
		for range 400 {
			if len(p.is(idle)) == 0 && p.leftKnown() {
				break
			}
			clear(p.until)
			p.meet(1)
		}
		p.premises()
		p.part(2 + p.chance.Intn(2*len(p.is(active))))
		p.settle(p.wayOf())
	}
	wantSaw(t, saw, rounds(35), "forgotten")
	wantSaw(t, saw, rounds(10), "forgotten but for nothing", "forgotten, as others have left", "late images")
	wantSaw(t, saw, rounds(8), "sponsors that leave")
}

// leftKnown tells whether some live site knows of all who leave.
func (p *play) leftKnown() bool {
	for _, site := range p.is(leaving) {
		if !slices.ContainsFunc(p.is(active), func(other int) bool { return !slices.Contains(p.sight(other).Members, site) }) {
			return false
		}
	}
	return true
}

// watchStill: P0.4: once all live sites have the same, no site is idle or leaving, and nothing of a stopped one's is under way, no live site's vector or text changes, until there is an edit, a join or a leave.
func watchStill(p *play, before moment, s api.Step, a api.Answer) {
	p.t.Helper()
	edits := []int{api.StepInsert, api.StepDelete, api.StepJoin, api.StepLeave}
	if a.Err == api.OK && slices.Contains(edits, s.Kind) {
		p.calm = false
	}
	if p.calm {
		for site, l := range p.now.looks {
			if was := before.looks[site]; l.text != was.text || !slices.Equal(l.sight.Vector, was.sight.Vector) {
				p.fail("site %d changed: %s; it was %s", site, words(l), words(was))
			}
		}
		if s.Kind == api.StepDeliver && a.Err == api.OK {
			p.saw["frames that change nothing"]++
		}
		if s.Kind == api.StepStop && a.Err == api.OK {
			p.saw["stops that change nothing"]++
		}
		return
	}
	p.calm = p.isCalm()
}

// isCalm tells whether P0.4's premises hold.
func (p *play) isCalm() bool {
	live := p.now.live()
	for _, l := range p.now.looks {
		if !l.live() || !slices.Equal(l.sight.Vector, p.now.looks[live[0]].sight.Vector) {
			return false
		}
	}
	calm := !slices.ContainsFunc(p.now.under, func(c api.Copy) bool { _, there := p.now.looks[c.From]; return !there })
	if calm && len(live) > 1 {
		p.saw["times of rest"]++
	}
	return calm
}

// TestStill: P0.4, at every step of many plays that come to rest now and then.
func TestStill(t *testing.T) {
	t.Parallel()
	saw := map[string]int{}
	for seed := range rounds(40) {
		m := everyday(2 + seed%15)
		m.late = seed%2 == 0
		p := newPlay(t, 4000+seed, someConfig(seeded(4000+seed)), m, saw, watchStill)
		p.run(60 + 5*m.sites)
		for range 3 {
			p.m = m
			p.run(20)
			p.premises()
			p.rest()
			p.m = m.quiet()
			p.run(60)
			p.m.stops = 12
			p.run(40)
		}
	}
	wantSaw(t, saw, rounds(400), "frames that change nothing")
	wantSaw(t, saw, rounds(20), "stops that change nothing", "times of rest")
}

// rest lets about half of what is said arrive, until all live sites have the same; much of the rest lingers on.
func (p *play) rest() {
	p.t.Helper()
	for range 60 {
		if p.still() {
			return
		}
		p.do(p.tick(nil))
		under := p.under()
		for _, c := range under {
			if p.chance.Intn(2) == 0 {
				p.do(deliver(c.Num))
			} else if len(under) > 4*p.m.sites {
				p.do(drop(c.Num))
			}
		}
	}
}
