package front_test

import (
	"slices"
	"testing"

	"hearsay/api"
	"hearsay/front"
)

// What the chapter says, worked out a second time by other means: all that happened is kept as it came, and nothing else. A row is counted out of it each time, site by site; a usable row is the row as it was at the last settling that covered it, which is looked for from the end.

type model struct {
	past []event
}

// event is something that was heard of a site, or a settling, whose site is 0.
type event struct {
	site int
	v    api.Vector
}

// says is how many operations of a site a vector has.
func says(v api.Vector, site int) int {
	for _, d := range v {
		if d.Site == site {
			return d.Seq
		}
	}
	return 0
}

// each is the vector that says this of each site.
func each(count func(site int) int) api.Vector {
	var v api.Vector
	for site := 1; site <= api.MaxSites; site++ {
		if n := count(site); n != 0 {
			v = append(v, dot(site, n))
		}
	}
	return v
}

// covers tells whether no Dot of b is above what a says.
func covers(a, b api.Vector) bool {
	return !slices.ContainsFunc(b, func(d api.Dot) bool { return d.Seq > says(a, d.Site) })
}

// wantCheck is the first one of all that stands against a list of Dots.
func wantCheck(v api.Vector) api.Errno {
	var all []api.Errno
	for i, d := range v {
		if d.Site < 1 || d.Site > 16 {
			all = append(all, api.ErrArg)
		}
		if d.Seq < 1 || d.Seq>>31 != 0 {
			all = append(all, api.ErrForm)
		}
		if i > 0 && d.Site <= v[i-1].Site {
			all = append(all, api.ErrOrder)
		}
	}
	return append(all, api.OK)[0]
}

func (m *model) hear(site int, have api.Vector) api.Errno {
	if site < 1 || site > 16 {
		return api.ErrArg
	}
	if err := wantCheck(have); err != api.OK {
		return err
	}
	m.past = append(m.past, event{site, slices.Clone(have)})
	return api.OK
}

func (m *model) settle(own api.Vector) {
	if wantCheck(own) == api.OK {
		m.past = append(m.past, event{0, slices.Clone(own)})
	}
}

// rowAt is the row of a site as it was ahead of the event at that place, and whether the site was heard of then.
func (m *model) rowAt(at, site int) (api.Vector, bool) {
	var said [api.MaxSites + 1]int
	heard := false
	for _, e := range m.past[:at] {
		if e.site != site {
			continue
		}
		heard = true
		for _, d := range e.v {
			said[d.Site] = max(said[d.Site], d.Seq)
		}
	}
	return each(func(of int) int { return said[of] }), heard
}

func (m *model) row(site int) (api.Vector, bool) {
	if site < 1 || site > 16 {
		return nil, false
	}
	return m.rowAt(len(m.past), site)
}

func (m *model) usable(site int) api.Vector {
	if site < 1 || site > 16 {
		return nil
	}
	for at, e := range slices.Backward(m.past) {
		if e.site != 0 {
			continue
		}
		if row, _ := m.rowAt(at, site); covers(e.v, row) {
			return row
		}
	}
	return nil
}

// frontier is of each site the least that anybody says who counts.
func (m *model) frontier(members []int, self int, own api.Vector) api.Vector {
	if wantCheck(own) != api.OK {
		return nil
	}
	counted := map[int]api.Vector{}
	for _, member := range members {
		counted[member] = m.usable(member)
	}
	counted[self] = own
	return each(func(site int) int {
		least := api.MaxSeq
		for _, v := range counted {
			least = min(least, says(v, site))
		}
		return least
	})
}

// What is handed in has spare room, and is spoilt behind the call; so is what was answered, as far as its room goes. So whatever a front shares shows in whatever is asked of it later.

// roomy is a list with room behind its end, in which something stands.
func roomy[L ~[]E, E any](list L, junk E) L {
	room := append(slices.Clone(list), junk, junk, junk)
	return room[: len(list) : len(list)+3]
}

var junkDot = dot(-77, -78)

const junkSite = -79

func spoil[L ~[]E, E any](list L, junk E) {
	list = list[:cap(list)]
	for i := range list {
		list[i] = junk
	}
}

// wantUnchanged holds a list that was handed in, and its spare room, against what it was; and spoils it.
func wantUnchanged[L ~[]E, E comparable](t *testing.T, what string, given, was L, junk E) {
	t.Helper()
	if !slices.Equal(given[:cap(given)], append(slices.Clone(was), junk, junk, junk)) {
		t.Errorf("%s has made %v of %v", what, first(given[:cap(given)]), first(was))
	}
	spoil(given, junk)
}

// kept is a vector that was answered, which is spoilt then.
func kept(v api.Vector) api.Vector {
	was := slices.Clone(v)
	spoil(v, junkDot)
	return was
}

// both is a front, and the same worked out a second time; with the usable rows that were last seen.
type both struct {
	front *front.Front
	model *model
	last  map[int]api.Vector
}

func begun() both { return both{front.New(), &model{}, map[int]api.Vector{}} }

// hear hears of a site twice over, holds what is answered against what it must be, and says it.
func (b both) hear(t *testing.T, site int, have api.Vector) api.Errno {
	t.Helper()
	given := roomy(have, junkDot)
	err := b.front.Hear(site, given)
	wantErr(t, []any{"Hear", site, first(have)}, err, b.model.hear(site, have))
	wantUnchanged(t, "Hear", given, have, junkDot)
	return err
}

// must hears what may not be refused.
func (b both) must(t *testing.T, site int, have ...int) {
	t.Helper()
	wantErr(t, []any{"Hear", site, have}, b.hear(t, site, vec(have...)), api.OK)
}

// settle settles twice over, and holds the usable rows that it made against P14.6.
func (b both) settle(t *testing.T, own api.Vector) {
	t.Helper()
	var before, after [api.MaxSites + 1]api.Vector
	for site := range before {
		before[site] = kept(b.front.Usable(site))
	}
	given := roomy(own, junkDot)
	b.front.Settle(given)
	b.model.settle(own)
	wantUnchanged(t, "Settle", given, own, junkDot)
	for site := range after {
		after[site] = kept(b.front.Usable(site))
		if !slices.Equal(before[site], after[site]) && !covers(own, after[site]) {
			t.Errorf("Settle(%v) has made usable of %d: %v", first(own), site, after[site])
		}
	}
}

// frontier asks for the frontier twice over, holds what is answered against what it must be and against P14.7, and says it.
func (b both) frontier(t *testing.T, members []int, self int, own api.Vector) api.Vector {
	t.Helper()
	given, list := roomy(own, junkDot), roomy(members, junkSite)
	got := kept(b.front.Frontier(list, self, given))
	wantUnchanged(t, "Frontier", given, own, junkDot)
	wantUnchanged(t, "Frontier", list, members, junkSite)
	about := []any{"Frontier", first(members), self, first(own)}
	wantVector(t, about, got, b.model.frontier(members, self, own))
	wantErr(t, about, wantCheck(got), api.OK)
	if wantCheck(own) == api.OK && !covers(own, got) {
		t.Errorf("%v: %v, which is more", about, got)
	}
	for _, member := range members {
		if usable := kept(b.front.Usable(member)); member != self && !covers(usable, got) {
			t.Errorf("%v: %v; %d has %v", about, got, member, usable)
			break
		}
	}
	return got
}

// wantFrontier holds the frontier against what is written out.
func (b both) wantFrontier(t *testing.T, members []int, self int, own api.Vector, want ...int) {
	t.Helper()
	wantVector(t, []any{"Frontier", first(members), self, first(own)}, b.frontier(t, members, self, own), vec(want...))
}

// first is the first ones of a list, which may be too long to be told.
func first[L ~[]E, E any](list L) L { return list[:min(len(list), 20)] }

// wantErr holds an error against what it must be.
func wantErr(t *testing.T, about any, got, want api.Errno) {
	t.Helper()
	if got != want {
		t.Errorf("%v: error %d; want %d", about, int(got), int(want))
	}
}

// wantVector holds a vector against what it must be.
func wantVector(t *testing.T, about any, got, want api.Vector) {
	t.Helper()
	if !slices.Equal(got, want) {
		t.Errorf("%v: %v; want %v", about, got, want)
	}
}

// wantRow holds a site's row and usable row against what is written out.
func (b both) wantRow(t *testing.T, site int, row, usable api.Vector) {
	t.Helper()
	got, ok := b.front.Row(site)
	if !ok {
		t.Errorf("%d was not heard of", site)
	}
	wantVector(t, []any{"Row", site}, kept(got), row)
	wantVector(t, []any{"Usable", site}, kept(b.front.Usable(site)), usable)
}

// wantUnheard holds that a site was never heard of.
func (b both) wantUnheard(t *testing.T, site int) {
	t.Helper()
	if got, ok := b.front.Row(site); ok || len(got) > 0 {
		t.Errorf("Row(%d): %v, %v", site, got, ok)
	}
	wantVector(t, []any{"Usable", site}, b.front.Usable(site), nil)
}

// wantFront holds what a front tells of all sites, and of some that are none, against what it must be and against P14.6.
func (b both) wantFront(t *testing.T) {
	t.Helper()
	for site := -1; site <= api.MaxSites+2; site++ {
		row, ok := b.front.Row(site)
		usable := b.front.Usable(site)
		row, usable = kept(row), kept(usable)
		wantRow, wantOk := b.model.row(site)
		wantVector(t, []any{"Row", site}, row, wantRow)
		if ok != wantOk {
			t.Errorf("Row(%d): %v; want %v", site, ok, wantOk)
		}
		wantVector(t, []any{"Usable", site}, usable, b.model.usable(site))
		if !covers(row, usable) {
			t.Errorf("%d: usable is %v; its row is %v", site, usable, row)
		}
		if !covers(usable, b.last[site]) {
			t.Errorf("%d: usable is %v, and was %v", site, usable, b.last[site])
		}
		b.last[site] = usable
	}
}
