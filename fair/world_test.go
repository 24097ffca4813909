package fair_test

import (
	"math/rand"
	"slices"
	"testing"

	"hearsay/api"
	"hearsay/fair"
	"hearsay/world"
)

// founded is a world of some sites, each of which knows of all.
func founded(t *testing.T, sites int) *world.World {
	t.Helper()
	w, err := world.New(api.Config{Hold: 8, Window: 2, Push: 3, Min: 2, Max: 8, Keep: 100})
	if err != api.OK {
		t.Fatalf("New: %d", int(err))
	}
	for site := 2; site <= sites; site++ {
		w.Do(api.Step{Kind: api.StepJoin, Site: site, Peer: 1})
	}
	for round := 0; !knowAll(w); round++ {
		if round > 99 {
			t.Fatal("some site does not know of all")
		}
		w.Do(api.Step{Kind: api.StepTick, Draws: slices.Repeat([]int{round}, sites)})
		for _, c := range underWay(w) {
			w.Do(api.Step{Kind: api.StepDeliver, N: c.Num})
		}
	}
	return w
}

// sight is what a site tells of itself.
func sight(w *world.World, site int) api.Sight {
	return w.Do(api.Step{Kind: api.StepSight, Site: site}).Sight
}

// knowAll tells whether all sites are members for each.
func knowAll(w *world.World) bool {
	return !slices.ContainsFunc(w.Sites(), func(site int) bool { return !slices.Equal(sight(w, site).Members, w.Sites()) })
}

// underWay is the copies that are under way.
func underWay(w *world.World) []api.Copy {
	return w.Do(api.Step{Kind: api.StepCopies}).Copies
}

// edit is an insert or a delete at some site, which may be refused.
func (m maker) edit(sites int) api.Step {
	s := api.Step{Kind: api.StepInsert, Site: 1 + m.chance.Intn(sites), At: m.chance.Intn(3), N: 1, Text: string(rune('a' + m.chance.Intn(26)))}
	if m.chance.Intn(3) == 0 {
		s.Kind = api.StepDelete
	}
	return s
}

// quiet is any step but an edit, a join, a leave and a stop; most copies that it is about are under way.
func (m maker) quiet(under []api.Copy, sites int) api.Step {
	s := api.Step{Kind: api.StepTick, At: m.chance.Intn(9), Data: []byte{byte(m.chance.Intn(256))}}
	for range sites {
		s.Draws = append(s.Draws, m.chance.Intn(sites))
	}
	if len(under) > 0 {
		s.N = under[m.chance.Intn(len(under))].Num
		if kind := m.chance.Intn(20); kind < 14 {
			kinds := []int{api.StepDeliver, api.StepDeliver, api.StepDeliver, api.StepDeliver, api.StepDeliver, api.StepDrop, api.StepDouble, api.StepAlter, api.StepCut}
			s.Kind = kinds[kind%len(kinds)]
		}
	}
	return s
}

// TestWorlds: P23.2: what worlds tell of their copies, both ways.
func TestWorlds(t *testing.T) {
	m := maker{rand.New(rand.NewSource(2311))}
	windows, bad, dropped := 0, 0, 0
	for n := range rounds(48) {
		sites := 2 + n%3
		w := founded(t, sites)
		from := w.Steps()
		for range 150 * (sites - 1) {
			s := m.quiet(underWay(w), sites)
			if m.chance.Intn(10) == 0 {
				s = m.edit(sites)
			}
			if m.chance.Intn(900) == 0 {
				s = api.Step{Kind: api.StepStop, Site: sites}
			}
			w.Do(s)
		}
		events := w.Events()
		for _, e := range events {
			if e.Bad {
				bad++
			}
			if e.Kind == api.EventDropped {
				dropped++
			}
		}
		for _, live := range [][]int{w.Sites(), {1, 2}, {sites, 1}} {
			for _, from := range []int{0, from, w.Steps() - 100} {
				windows += len(both(t, events, live, from, w.Steps()))
				both(t, events, live, from, w.Steps()-m.chance.Intn(50))
			}
		}
	}
	if windows < rounds(1500) || bad < rounds(300) || dropped < rounds(300) {
		t.Errorf("%d windows, %d bad events and %d of what was dropped alone", windows, bad, dropped)
	}
}

// TestGreatWorld: P23.2: of as many sites as a world has.
func TestGreatWorld(t *testing.T) {
	w := founded(t, api.MaxSites)
	from := w.Steps()
	for draw := range 2 * (api.MaxSites - 1) {
		w.Do(api.Step{Kind: api.StepTick, Draws: slices.Repeat([]int{draw}, api.MaxSites)})
		for _, c := range underWay(w) {
			w.Do(api.Step{Kind: api.StepDeliver, N: c.Num})
		}
	}
	if got := both(t, w.Events(), w.Sites(), from, w.Steps()); len(got) == 0 {
		t.Error("no window, though each drew each other one")
	}
}

// barely plays until each site has heard from each other one, all else being lost.
func (m maker) barely(w *world.World) {
	sites := w.Sites()
	for _, e := range shuffled(m, all(sites, 0, 0)) {
		others := slices.DeleteFunc(slices.Clone(sites), func(site int) bool { return site == e.From })
		draws := make([]int, len(sites))
		draws[slices.Index(sites, e.From)] = slices.Index(others, e.To)
		now := w.Steps()
		w.Do(api.Step{Kind: api.StepTick, Draws: draws})
		for _, c := range underWay(w) {
			if c.From == e.From && c.To == e.To && c.Sent == now {
				w.Do(api.Step{Kind: api.StepDeliver, N: c.Num})
				break
			}
		}
		for _, c := range underWay(w) {
			w.Do(api.Step{Kind: api.StepDrop, N: c.Num})
		}
	}
}

// TestSettles: P0.3, with P23.2 and P23.3: behind as many fair windows as the bound says of what was issued, all sites have the same; and ahead of them they had not.
func TestSettles(t *testing.T) {
	m := maker{rand.New(rand.NewSource(2312))}
	alike := func(w *world.World) bool {
		one := sight(w, 1).Vector
		return !slices.ContainsFunc(w.Sites(), func(site int) bool { return !slices.Equal(sight(w, site).Vector, one) })
	}
	text := func(w *world.World, site int) string {
		return w.Do(api.Step{Kind: api.StepText, Site: site}).Text
	}
	for n := range rounds(32) {
		sites := 2 + n%4
		w := founded(t, sites)
		for site := range sites {
			w.Do(api.Step{Kind: api.StepInsert, Site: site + 1, Text: "hé"})
		}
		for range 10 {
			w.Do(m.edit(sites))
		}
		if alike(w) {
			t.Fatal("all have the same, though nothing went round")
		}
		from, bound := w.Steps(), fair.Bound(len(w.Issued()))
		for range bound {
			m.barely(w)
		}
		got := fair.Windows(w.Events(), w.Sites(), from, w.Steps())
		if len(got) < bound {
			t.Fatalf("%d windows, though all heard from all %d times", len(got), bound)
		}
		if !alike(w) {
			t.Fatalf("behind %d fair windows the sites have not the same", len(got))
		}
		for _, site := range w.Sites() {
			if text(w, site) != text(w, 1) {
				t.Errorf("%q at the site %d, %q at the site 1", text(w, site), site, text(w, 1))
			}
		}
	}
}
