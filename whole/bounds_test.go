package whole_test

import (
	"maps"
	"slices"
	"testing"

	"hearsay/api"
	"hearsay/frame"
	"hearsay/replica"
	"hearsay/vector"
)

// watchBounds: P0.5: at each site few enough wait, few enough numbers are unacknowledged, timers run for as long as they may, and what was cut off or settled every live site has.
func watchBounds(p *play, before moment, _ api.Step, _ api.Answer) {
	p.t.Helper()
	for site, l := range p.now.looks {
		if len(l.sight.Held) > p.c.Hold {
			p.fail("at site %d %v wait", site, l.sight.Held)
		}
		for _, peer := range l.sight.Peers {
			p.wantFlight(site, peer)
			p.wantTimer(site, l.sight.Tick, peer, peerOf(before.looks[site].sight, peer.Peer))
		}
		p.wantHadByAll(site, l.sight)
	}
}

// peerOf is what a site told of its talk with a peer.
func peerOf(s api.Sight, peer int) api.PeerSight {
	for _, p := range s.Peers {
		if p.Peer == peer {
			return p
		}
	}
	return api.PeerSight{}
}

// wantFlight: at most Window numbers, each of which was given, once.
func (p *play) wantFlight(site int, peer api.PeerSight) {
	p.t.Helper()
	n := len(peer.Flight)
	if n > p.c.Window || !slices.IsSorted(peer.Flight) || len(slices.Compact(slices.Clone(peer.Flight))) < n || n > 0 && peer.Flight[0] < 1 {
		p.fail("at site %d %v are unacknowledged by %d", site, peer.Flight, peer.Peer)
	}
	if n == p.c.Window {
		p.saw["full windows"]++
	}
}

// wantTimer: a timer that was set, or ran out, runs from the tick of now on for Min to Max ticks; else it goes on as it was, and a tick finds none that ran out.
func (p *play) wantTimer(site, tick int, now, was api.PeerSight) {
	p.t.Helper()
	if now.Gap == 0 && now.Due == 0 {
		return
	}
	same := now.Gap == was.Gap && now.Due == was.Due
	if now.Gap < p.c.Min || now.Gap > p.c.Max || now.Due <= tick || now.Due > tick+now.Gap || !same && now.Due != tick+now.Gap {
		p.fail("at tick %d of site %d the timer for %d has the gap %d, and runs out at %d; it had %d, %d", tick, site, now.Peer, now.Gap, now.Due, was.Gap, was.Due)
	}
	if now.Gap == p.c.Max && p.c.Max > p.c.Min {
		p.saw["timers that backed off"]++
	}
}

// wantHadByAll: every live site has what a site has cut off, and a delete of what it has settled or forgotten.
func (p *play) wantHadByAll(site int, s api.Sight) {
	p.t.Helper()
	if len(s.Base) == 0 {
		return
	}
	settled := map[api.ID]bool{}
	for _, o := range p.now.issued {
		if vector.Has(s.Vector, o.Dot) {
			for _, id := range elements(o) {
				settled[id] = true
			}
		}
	}
	if !s.Active {
		p.fail("site %d is idle, and has the base %v", site, s.Base)
	}
	for _, n := range p.twin.sites[site].Image().Nodes {
		if n.State != api.StateSettled {
			delete(settled, n.ID)
		}
	}
	for _, other := range p.now.live() {
		has := p.now.looks[other].sight.Vector
		if !vector.Covers(has, s.Base) {
			p.fail("site %d has cut off %v; site %d has %v", site, s.Base, other, has)
		}
		gone := maps.Clone(settled)
		for _, o := range p.now.issued {
			if vector.Has(has, o.Dot) && o.Kind == api.OpDelete {
				maps.DeleteFunc(gone, func(id api.ID, _ bool) bool { return names(o, id) })
			}
		}
		if len(gone) > 0 {
			p.fail("site %d has settled %v, of which site %d has no delete", site, gone, other)
		}
	}
	if len(settled) > 0 {
		p.saw["settled elements"]++
	}
}

// watchBehind: P0.6: no site's base is above the vector of a live site, and of two live ones the one's log has all that the other lacks of what it has.
func watchBehind(p *play, _ moment, _ api.Step, _ api.Answer) {
	p.t.Helper()
	live := p.now.live()
	for site, l := range p.now.looks {
		logged := map[api.Dot]bool{}
		for _, o := range p.twin.sites[site].Image().Log {
			logged[o.Dot] = true
		}
		for _, other := range live {
			has := p.now.looks[other].sight.Vector
			if !vector.Covers(has, l.sight.Base) {
				p.fail("site %d has the base %v; site %d has %v", site, l.sight.Base, other, has)
			}
			if l.live() {
				p.wantLogged(site, l.sight.Vector, logged, other, has)
			}
		}
		if len(l.sight.Base) > 0 {
			p.saw["bases"]++
		}
		if l.sight.Leaving && len(l.sight.Base) > 0 {
			p.saw["bases of those that leave"]++
		}
	}
}

func (p *play) wantLogged(site int, v api.Vector, logged map[api.Dot]bool, other int, has api.Vector) {
	p.t.Helper()
	for _, d := range v {
		for seq := vector.Get(has, d.Site) + 1; seq <= d.Seq; seq++ {
			if !logged[api.Dot{Site: d.Site, Seq: seq}] {
				p.fail("site %d has %v, but not %d.%d in its log, which site %d with %v lacks", site, v, d.Site, seq, other, has)
			}
			p.saw["operations that others lack"]++
		}
	}
}

// TestBounds: P0.5, at every step of many plays.
func TestBounds(t *testing.T) {
	t.Parallel()
	saw := map[string]int{}
	for seed := range rounds(45) {
		m := everyday(2 + seed%15)
		m.late = seed%2 == 0
		m.ticks *= 1 + seed%3
		m.deletes *= 2
		c := someConfig(seeded(5000 + seed))
		if seed%5 == 0 {
			c = leastConfig()
		}
		newPlay(t, 5000+seed, c, m, saw, watchBounds).run(150 + 10*m.sites)
	}
	wantSaw(t, saw, rounds(45), "full windows", "timers that backed off", "settled elements")
}

// but is a frame with another credit, from which some operations are taken out.
func but(t *testing.T, data []byte, credit int, out func() bool) []byte {
	t.Helper()
	f, err := frame.Decode(data)
	if err != api.OK {
		t.Fatalf("Decode: error %d", int(err))
	}
	f.Credit, f.Ops = credit, slices.DeleteFunc(f.Ops, func(api.Op) bool { return out() })
	told, err := frame.Encode(f)
	if err != api.OK {
		t.Fatalf("Encode: error %d", int(err))
	}
	return told
}

// TestHold: P0.5: where operations are missing of frames others wait, but never more than Hold; also if the sender does not know how few may.
func TestHold(t *testing.T) {
	t.Parallel()
	saw := map[string]int{}
	for seed := range rounds(60) {
		chance := seeded(5500 + seed)
		c := someConfig(chance)
		c.Hold, c.Push = pick(chance, 0, 1, 2, 5), api.MaxPush
		one, _ := replica.Found(1, c)
		two, _ := replica.Idle(2, c)
		one.Join(2)
		said, _ := one.Draw(2)
		for range 200 {
			answers, err := two.Receive(but(t, said[0].Data, 0, func() bool { return chance.Intn(3) == 0 }))
			if err != api.OK {
				t.Fatalf("Receive: error %d", int(err))
			}
			if chance.Intn(3) == 0 {
				one.Receive(but(t, answers[0].Data, api.MaxHold, func() bool { return false }))
			}
			held := two.Sight().Held
			if len(held) > c.Hold {
				t.Fatalf("%+v: %v wait", c, held)
			}
			if len(held) == c.Hold && c.Hold > 0 {
				saw["full holds"]++
			}
			one.Insert(0, someText(chance))
			said, _ = one.Draw(2)
		}
	}
	wantSaw(t, saw, rounds(60), "full holds")
}

// TestNeverBehind: P0.6, at every step of many plays.
func TestNeverBehind(t *testing.T) {
	t.Parallel()
	saw := map[string]int{}
	for seed := range rounds(45) {
		m := everyday(2 + seed%15)
		m.late = seed%3 > 0
		m.leaves, m.stops = 1+seed%2, seed%2
		c := someConfig(seeded(6000 + seed))
		c.Keep = min(c.Keep, 3)
		newPlay(t, 6000+seed, c, m, saw, watchBehind).run(150 + 12*m.sites)
	}
	wantSaw(t, saw, rounds(45), "bases", "bases of those that leave", "operations that others lack", "joiners", "leavers")
	wantSaw(t, saw, rounds(10), "late images")
}
