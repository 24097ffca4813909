package whole_test

import (
	"maps"
	"math/rand"
	"slices"
	"testing"

	"hearsay/api"
	"hearsay/frame"
	"hearsay/past"
	"hearsay/replica"
	"hearsay/vector"
)

// watchBounds: P0.5: at each site few enough wait, few enough numbers are unacknowledged, timers run for as long as they may, and what was cut off or settled every live site has.
func watchBounds(p *play, before moment, _ api.Step, _ api.Answer) {
	p.t.Helper()
	for site, l := range p.now.looks {
		if len(l.sight.Held) > p.c.Hold {
			p.fail("at site %d %v wait", site, l.sight.Held)
		}
		for _, peer := range l.sight.Peers {
			p.wantFlight(site, peer)
			p.wantTimer(site, l.sight.Tick, peer, peerOf(before.looks[site].sight, peer.Peer))
		}
		p.wantHadByAll(site, l.sight)
	}
}

// peerOf is what a site told of its talk with a peer.
func peerOf(s api.Sight, peer int) api.PeerSight {
	for _, p := range s.Peers {
		if p.Peer == peer {
			return p
		}
	}
	return api.PeerSight{}
}

// wantFlight: at most Window numbers, each of which was given, once.
func (p *play) wantFlight(site int, peer api.PeerSight) {
	p.t.Helper()
	n := len(peer.Flight)
	if n > p.c.Window || !slices.IsSorted(peer.Flight) || len(slices.Compact(slices.Clone(peer.Flight))) < n || n > 0 && peer.Flight[0] < 1 {
		p.fail("at site %d %v are unacknowledged by %d", site, peer.Flight, peer.Peer)
	}
	if n == p.c.Window {
		p.saw["full windows"]++
	}
}

// wantTimer: a timer that was set, or ran out, runs from the tick of now on for Min to Max ticks; else it goes on as it was, and a tick finds none that ran out.
func (p *play) wantTimer(site, tick int, now, was api.PeerSight) {
	p.t.Helper()
	if now.Gap == 0 && now.Due == 0 {
		return
	}
	same := now.Gap == was.Gap && now.Due == was.Due
	if now.Gap < p.c.Min || now.Gap > p.c.Max || now.Due <= tick || now.Due > tick+now.Gap || !same && now.Due != tick+now.Gap {
		p.fail("at tick %d of site %d the timer for %d has the gap %d, and runs out at %d; it had %d, %d", tick, site, now.Peer, now.Gap, now.Due, was.Gap, was.Due)
	}
	if now.Gap == p.c.Max && p.c.Max > p.c.Min {
		p.saw["timers that backed off"]++
	}
}

// wantHadByAll: every live site has what a site has cut off, and a delete of what it has settled or forgotten.
func (p *play) wantHadByAll(site int, s api.Sight) {
	p.t.Helper()
	if len(s.Base) == 0 {
		return
	}
	settled := map[api.ID]bool{}
	for _, o := range p.now.issued {
		if vector.Has(s.Vector, o.Dot) {
			for _, id := range elements(o) {
				settled[id] = true
			}
		}
	}
	if !s.Active {
		p.fail("site %d is idle, and has the base %v", site, s.Base)
	}
	for _, n := range p.twin.sites[site].Image().Nodes {
		if n.State != api.StateSettled {
			delete(settled, n.ID)
		}
	}
	for _, other := range p.now.live() {
		has := p.now.looks[other].sight.Vector
		if !vector.Covers(has, s.Base) {
			p.fail("site %d has cut off %v; site %d has %v", site, s.Base, other, has)
		}
		gone := maps.Clone(settled)
		for _, o := range p.now.issued {
			if vector.Has(has, o.Dot) && o.Kind == api.OpDelete {
				maps.DeleteFunc(gone, func(id api.ID, _ bool) bool { return names(o, id) })
			}
		}
		if len(gone) > 0 {
			p.fail("site %d has settled %v, of which site %d has no delete", site, gone, other)
		}
	}
	if len(settled) > 0 {
		p.saw["settled elements"]++
	}
}

// watchBehind: P0.6: no site's base is above the vector of a live site, and of two live ones the one's log has all that the other lacks of what it has.
func watchBehind(p *play, _ moment, _ api.Step, _ api.Answer) {
	p.t.Helper()
	live := p.now.live()
	for site, l := range p.now.looks {
		logged := map[api.Dot]bool{}
		for _, o := range p.twin.sites[site].Image().Log {
			logged[o.Dot] = true
		}
		for _, other := range live {
			has := p.now.looks[other].sight.Vector
			if !vector.Covers(has, l.sight.Base) {
				p.fail("site %d has the base %v; site %d has %v", site, l.sight.Base, other, has)
			}
			if l.live() {
				p.wantLogged(site, l.sight.Vector, logged, other, has)
			}
		}
		if len(l.sight.Base) > 0 {
			p.saw["bases"]++
		}
		if l.sight.Leaving && len(l.sight.Base) > 0 {
			p.saw["bases of those that leave"]++
		}
	}
}

func (p *play) wantLogged(site int, v api.Vector, logged map[api.Dot]bool, other int, has api.Vector) {
	p.t.Helper()
	for _, d := range v {
		for seq := vector.Get(has, d.Site) + 1; seq <= d.Seq; seq++ {
			if !logged[api.Dot{Site: d.Site, Seq: seq}] {
				p.fail("site %d has %v, but not %d.%d in its log, which site %d with %v lacks", site, v, d.Site, seq, other, has)
			}
			p.saw["operations that others lack"]++
		}
	}
}

// TestBounds: P0.5, at every step of many plays.
func TestBounds(t *testing.T) {
	t.Parallel()
	saw := map[string]int{}
	for seed := range rounds(45) {
		m := everyday(2 + seed%15)
		m.late = seed%2 == 0
		m.ticks *= 1 + seed%3
		m.deletes *= 2
		c := someConfig(seeded(5000 + seed))
		if seed%5 == 0 {
			c = leastConfig()
		}
		newPlay(t, 5000+seed, c, m, saw, watchBounds).run(150 + 10*m.sites)
	}
	wantSaw(t, saw, rounds(45), "full windows", "timers that backed off", "settled elements")
}

// but is a frame with another credit, from which some operations are taken out.
func but(t *testing.T, data []byte, credit int, out func() bool) []byte {
	t.Helper()
	f, err := frame.Decode(data)
	if err != api.OK {
		t.Fatalf("Decode: error %d", int(err))
	}
	f.Credit, f.Ops = credit, slices.DeleteFunc(f.Ops, func(api.Op) bool { return out() })
	told, err := frame.Encode(f)
	if err != api.OK {
		t.Fatalf("Encode: error %d", int(err))
	}
	return told
}

// hole is a site that hears all of others by one of them, in frames of which operations were taken out.
type hole struct {
	t      *testing.T
	chance *rand.Rand
	c      api.Config
	from   []*replica.Replica // the first one talks with all others
	to     *replica.Replica
	issued []api.Op
}

func newHole(t *testing.T, seed int) *hole {
	t.Helper()
	h := &hole{t: t, chance: seeded(seed)}
	h.c = someConfig(h.chance)
	h.c.Hold, h.c.Push = pick(h.chance, 0, 1, 1, 2, 5), api.MaxPush
	founder, err := replica.Found(1, h.c)
	if err != api.OK {
		t.Fatalf("Found: error %d", int(err))
	}
	h.from, h.issued = []*replica.Replica{founder}, founder.Image().Log
	for site := 2; site <= 4; site++ {
		r, _ := replica.Idle(site, h.c)
		h.issue(founder.Join(site))
		h.from = append(h.from, r)
	}
	h.to, h.from = h.from[3], h.from[:3]
	for _, r := range h.from[1:] {
		talk(founder, r)
	}
	h.tell(func() bool { return false })
	return h
}

func (h *hole) issue(o api.Op, err api.Errno) {
	h.t.Helper()
	if err != api.OK {
		h.t.Fatalf("an edit: error %d", int(err))
	}
	h.issued = append(h.issued, o)
}

// talk lets two sites speak to each other once.
func talk(a, b *replica.Replica) {
	said, _ := a.Draw(b.Sight().Site)
	answers, _ := b.Receive(said[0].Data)
	for _, x := range answers {
		a.Receive(x.Data)
	}
}

// tell lets the site hear a frame, of which something is taken out; seldom its answer arrives, which does not tell how few may wait.
func (h *hole) tell(out func() bool) {
	h.t.Helper()
	said, err := h.from[0].Draw(4)
	if err != api.OK {
		h.t.Fatalf("Draw: error %d", int(err))
	}
	answers, err := h.to.Receive(but(h.t, said[0].Data, 0, out))
	if err != api.OK {
		h.t.Fatalf("Receive: error %d", int(err))
	}
	if len(answers) > 0 && h.chance.Intn(3) == 0 {
		h.from[0].Receive(but(h.t, answers[0].Data, api.MaxHold, func() bool { return false }))
	}
	h.wantClosed()
}

// wantClosed: what is there is a closed set, whose text is shown, and what waits is beyond it, and not too much.
func (h *hole) wantClosed() {
	h.t.Helper()
	s := h.to.Sight()
	ops := past.Upto(h.issued, s.Vector)
	says, err := past.Text(ops)
	if err != api.OK || says != h.to.Text() {
		h.t.Fatalf("%+v: it has %v, error %d, and shows %q; want %q", h.c, s.Vector, int(err), h.to.Text(), says)
	}
	if len(s.Held) > h.c.Hold || slices.ContainsFunc(s.Held, func(d api.Dot) bool { return vector.Has(s.Vector, d) }) {
		h.t.Fatalf("%+v: it has %v, and %v wait", h.c, s.Vector, s.Held)
	}
}

// TestHold: P0.1 and P0.5: where operations are missing of frames others wait, but never more than Hold, also if the sender does not know how few may; and what is delivered is closed. Once none are missing nothing waits any more.
func TestHold(t *testing.T) {
	t.Parallel()
	saw := map[string]int{}
	for seed := range rounds(80) {
		h := newHole(t, 5500+seed)
		for range 60 {
			r := pick(h.chance, h.from...)
			h.issue(r.Insert(h.chance.Intn(r.Len()+1), someText(h.chance)))
			talk(h.from[0], pick(h.chance, h.from[1:]...))
			h.tell(func() bool { return h.chance.Intn(5) < 2 })
			if held := len(h.to.Sight().Held); held > 0 {
				saw["operations that wait"]++
				if held == h.c.Hold {
					saw["full holds"]++
				}
			}
		}
		for n := 0; n < 400 && !slices.Equal(h.to.Sight().Vector, h.from[0].Sight().Vector); n++ {
			h.tell(func() bool { return false })
		}
		s, all := h.to.Sight(), h.from[0].Sight()
		if len(s.Held) > 0 || !slices.Equal(s.Vector, all.Vector) || h.to.Text() != h.from[0].Text() {
			t.Fatalf("%+v: it has %v of %v, and %v wait", h.c, s.Vector, all.Vector, s.Held)
		}
	}
	wantSaw(t, saw, rounds(60), "full holds", "operations that wait")
}

// TestNeverBehind: P0.6, at every step of many plays.
func TestNeverBehind(t *testing.T) {
	t.Parallel()
	saw := map[string]int{}
	for seed := range rounds(45) {
		m := everyday(2 + seed%15)
		m.late = seed%3 > 0
		m.leaves, m.stops = 1+seed%2, seed%2
		c := someConfig(seeded(6000 + seed))
		c.Keep = min(c.Keep, 3)
		newPlay(t, 6000+seed, c, m, saw, watchBehind).run(150 + 12*m.sites)
	}
	wantSaw(t, saw, rounds(45), "bases", "bases of those that leave", "operations that others lack", "joiners")
	wantSaw(t, saw, rounds(20), "leavers", "late images")
}
