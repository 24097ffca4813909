package whole_test

import (
	"fmt"
	"slices"
	"testing"

	"hearsay/api"
	"hearsay/past"
	"hearsay/vector"
)

// said is what a closed set of operations says, and what a site keeps of it by its base.
type said struct {
	ops     []api.Op
	text    string
	members []int
	nodes   []api.Node
}

// says works it out, by package past; once only, as what was issued stays so.
func (p *play) says(v, base api.Vector) said {
	p.t.Helper()
	key := fmt.Sprint(v, base)
	if s, there := p.said[key]; there {
		return s
	}
	s := said{ops: past.Upto(p.now.issued, v)}
	if len(s.ops) != vector.Sum(v) {
		p.fail("a site has %v, of which %d were issued", v, len(s.ops))
	}
	if err := past.Closed(s.ops); err != api.OK {
		p.fail("a site has %v, which is not closed: error %d", v, int(err))
	}
	var errs [3]api.Errno
	s.text, errs[0] = past.Text(s.ops)
	s.members, errs[1] = past.Members(s.ops)
	s.nodes, errs[2] = past.Nodes(s.ops, base)
	if errs != [3]api.Errno{} {
		p.fail("what %v says, with the base %v: errors %v", v, base, errs)
	}
	p.said[key] = s
	return s
}

// watchSafe: P0.1: what each active site has delivered is a closed set of what was issued so far, each operation once; and its text, its members and what it keeps are what that set and its base say.
func watchSafe(p *play, _ moment, _ api.Step, _ api.Answer) {
	p.t.Helper()
	for site, l := range p.now.looks {
		if !l.sight.Active {
			if l.text != "" || l.sight.Kept+l.sight.Log+len(l.sight.Vector)+len(l.sight.Members) > 0 {
				p.fail("site %d is idle, and tells %s", site, words(l))
			}
			continue
		}
		s := p.says(l.sight.Vector, l.sight.Base)
		if l.text != s.text || l.sight.Kept != len(s.nodes) || !slices.Equal(l.sight.Members, s.members) {
			p.fail("site %d shows %q, keeps %d, has the members %v; by what it has: %q, %d, %v", site, l.text, l.sight.Kept, l.sight.Members, s.text, len(s.nodes), s.members)
		}
		p.wantImage(site, p.twin.sites[site].Image(), s, l.sight.Base)
		p.wantOnce(site, l.sight)
	}
}

// wantImage: a site's elements are what is said of it, and its log has just what it has above its base.
func (p *play) wantImage(site int, m api.Image, s said, base api.Vector) {
	p.t.Helper()
	if !slices.Equal(m.Nodes, s.nodes) {
		p.fail("site %d keeps %s; by what it has: %s", site, words(m.Nodes), words(s.nodes))
	}
	if len(s.nodes) > 0 && s.nodes[0].State != api.StateShown {
		p.saw["elements that are not shown"]++
	}
	log := map[api.Dot]bool{}
	above := slices.DeleteFunc(slices.Clone(s.ops), func(o api.Op) bool { return vector.Has(base, o.Dot) })
	for _, o := range m.Log {
		at := slices.IndexFunc(above, func(a api.Op) bool { return a.Dot == o.Dot })
		if at < 0 || log[o.Dot] || !sameOp(above[at], o) {
			p.fail("site %d has %s in its log", site, words(o))
		}
		log[o.Dot] = true
	}
	if len(m.Log) != len(above) {
		p.fail("site %d has %d operations in its log, of %d above its base", site, len(m.Log), len(above))
	}
	if len(above) < len(s.ops) {
		p.saw["logs that were cut"]++
	}
}

// wantOnce: what waits was issued, and was not delivered.
func (p *play) wantOnce(site int, s api.Sight) {
	p.t.Helper()
	for _, d := range s.Held {
		issued := slices.ContainsFunc(p.now.issued, func(o api.Op) bool { return o.Dot == d })
		if !issued || vector.Has(s.Vector, d) {
			p.fail("at site %d %v waits, issued: %v; it has %v", site, d, issued, s.Vector)
		}
	}
}

// TestSafe: P0.1, at every step of many plays.
func TestSafe(t *testing.T) {
	t.Parallel()
	saw := map[string]int{}
	for seed := range rounds(60) {
		m := everyday(2 + seed%15)
		m.late = seed%2 == 0
		m.near = 5 * (seed % 3)
		p := newPlay(t, 1000+seed, someConfig(seeded(1000+seed)), m, saw, watchSafe)
		p.run(150 + 12*m.sites)
	}
	wantSaw(t, saw, rounds(60), "joiners", "elements that are not shown", "logs that were cut")
	wantSaw(t, saw, rounds(16), "late images", "sponsors that stop", "leavers")
}
