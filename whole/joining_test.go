package whole_test

import (
	"testing"

	"hearsay/api"
)

// watchJoining: P0.8: the step that makes a site active is the arrival of an image, and shows there what its sender had shown when it sent that.
func watchJoining(p *play, before moment, s api.Step, a api.Answer) {
	p.t.Helper()
	for site, l := range p.now.looks {
		was, there := before.looks[site]
		if !l.sight.Active || !there && site == 1 || was.sight.Active {
			continue
		}
		if s.Kind != api.StepDeliver || a.Err != api.OK || a.Copies[0].To != site || a.Copies[0].Bad {
			p.fail("site %d became active by %s", site, words(told(s, a)))
		}
		c := a.Copies[0]
		then, spoke := p.spoken[c.Sent][c.From]
		if !spoke || l.text != then {
			p.fail("site %d shows %q; site %d showed %q at step %d, spoke: %v", site, l.text, c.From, then, c.Sent, spoke)
		}
		if l.text != "" {
			p.saw["joiners with a text"]++
		}
		if now, there := p.now.looks[c.From]; there && now.text != then {
			p.saw["joiners by a text that is no more"]++
		} else if !there {
			p.saw["joiners by one that is stopped"]++
		}
	}
	p.listen()
}

// listen keeps in mind what each site shows that spoke in this step.
func (p *play) listen() {
	for i := len(p.now.events) - 1; i >= 0 && p.now.events[i].Step == p.now.step; i-- {
		e := p.now.events[i]
		if e.Kind != api.EventSent || e.Sent != p.now.step {
			continue
		}
		if p.spoken[e.Sent] == nil {
			p.spoken[e.Sent] = map[int]string{}
		}
		p.spoken[e.Sent][e.From] = p.now.looks[e.From].text
	}
}

// TestJoining: P0.8, at every step of many plays, most of them with images that are late, and with sponsors that are gone by then.
func TestJoining(t *testing.T) {
	t.Parallel()
	saw := map[string]int{}
	for seed := range rounds(60) {
		m := everyday(3 + seed%14)
		m.late = seed%4 > 0
		m.joins, m.doubles = 9, 8
		p := newPlay(t, 8000+seed, someConfig(seeded(8000+seed)), m, saw, watchJoining)
		p.run(20)
		p.run(150 + 12*m.sites)
	}
	wantSaw(t, saw, rounds(60), "joiners with a text", "joiners by a text that is no more")
	wantSaw(t, saw, rounds(16), "joiners by one that is stopped", "late images")
}
