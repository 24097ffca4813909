package whole_test

import (
	"fmt"
	"slices"
	"testing"

	"hearsay/api"
	"hearsay/past"
	"hearsay/vector"
)

// placed is a text that was inserted, and the shown elements between which it was asked for; the beginning and the end are zero.
type placed struct {
	op          api.Op
	left, right api.ID
}

// elements is those of an insert, in its order.
func elements(o api.Op) []api.ID {
	var l []api.ID
	for i := range []rune(o.Text) {
		l = append(l, api.ID{Time: o.ID.Time + i, Site: o.ID.Site})
	}
	return l
}

// line is all elements that some operations insert, in the order of DOC.md's words: an element, then what stands behind it, the higher ones first, each with all that stands behind it in turn.
func line(ops []api.Op) []api.ID {
	behind := map[api.ID][]api.ID{}
	for _, o := range ops {
		ref := o.Ref
		for _, id := range elements(o) {
			behind[ref] = append(behind[ref], id)
			ref = id
		}
	}
	var l []api.ID
	var lay func(api.ID)
	lay = func(ref api.ID) {
		slices.SortFunc(behind[ref], func(a, b api.ID) int {
			if a.Time != b.Time {
				return b.Time - a.Time
			}
			return b.Site - a.Site
		})
		for _, id := range behind[ref] {
			l = append(l, id)
			lay(id)
		}
	}
	lay(api.ID{})
	return l
}

// runes is which one each element has.
func runes(ops []api.Op) map[api.ID]rune {
	of := map[api.ID]rune{}
	for _, o := range ops {
		for i, r := range []rune(o.Text) {
			of[elements(o)[i]] = r
		}
	}
	return of
}

// shown is the shown elements of a site, in its order.
func (p *play) shown(site int) []api.ID {
	var l []api.ID
	for _, n := range p.twin.sites[site].Image().Nodes {
		if n.State == api.StateShown {
			l = append(l, n.ID)
		}
	}
	return l
}

// watchOrder: P0.2: texts list elements that were inserted; what is inserted stands at once at the place that was asked for; two that have the same show the same. What each text lists is kept in mind, for the end of the play.
func watchOrder(p *play, before moment, s api.Step, a api.Answer) {
	p.t.Helper()
	of := runes(p.now.issued)
	lists := map[int][]api.ID{}
	for site, l := range p.now.looks {
		if !l.sight.Active {
			continue
		}
		lists[site] = p.shown(site)
		text := ""
		for _, id := range lists[site] {
			if of[id] == 0 {
				p.fail("site %d shows %v, which nobody has inserted", site, id)
			}
			text += string(of[id])
		}
		if text != l.text {
			p.fail("site %d shows %q; its elements say %q", site, l.text, text)
		}
		key := fmt.Sprint(l.sight.Vector)
		if was, there := p.lists[key]; there && !slices.Equal(was, lists[site]) {
			p.fail("site %d shows %v; of the same vector %v was shown", site, lists[site], was)
		}
		p.lists[key] = lists[site]
	}
	if a.Err == api.OK && (s.Kind == api.StepInsert || s.Kind == api.StepDelete) {
		p.wantPlace(before.looks[s.Site].text, s, a.Op, p.shownBefore[s.Site], lists[s.Site])
	}
	p.wantAlike()
	p.shownBefore = lists
}

// wantPlace: what is inserted stands where it was asked for; what is deleted is what was asked for.
func (p *play) wantPlace(was string, s api.Step, o api.Op, before, now []api.ID) {
	p.t.Helper()
	behind := s.At
	if s.Kind == api.StepDelete {
		behind += s.N
	}
	want := slices.Concat(before[:s.At], elements(o), before[behind:])
	text := string([]rune(was)[:s.At]) + s.Text + string([]rune(was)[behind:])
	if got := p.now.looks[s.Site].text; got != text || !slices.Equal(now, want) {
		p.fail("site %d shows %q, %v; want %q, %v", s.Site, got, now, text, want)
	}
	if s.Kind == api.StepInsert {
		at := placed{op: o}
		if s.At > 0 {
			at.left = before[s.At-1]
		}
		if s.At < len(before) {
			at.right = before[s.At]
		}
		p.placed = append(p.placed, at)
	}
}

// wantAlike: two sites of one vector show the same text, and know the same members.
func (p *play) wantAlike() {
	p.t.Helper()
	first := map[string]int{}
	for site, l := range p.now.looks {
		if !l.sight.Active {
			continue
		}
		key := fmt.Sprint(l.sight.Vector)
		other, there := first[key]
		if !there {
			first[key] = site
			continue
		}
		p.saw["sites of one vector"]++
		if o := p.now.looks[other]; o.text != l.text || !slices.Equal(o.sight.Members, l.sight.Members) {
			p.fail("sites %d and %d have the same, and tell %s and %s", site, other, words(l), words(o))
		}
	}
}

// order is where each element stands in the one order; both ways to work it out must say the same, and every text that was ever shown must list its elements so.
func (p *play) order() map[api.ID]int {
	p.t.Helper()
	all := line(p.now.issued)
	if ids, err := past.Order(p.now.issued); err != api.OK || !slices.Equal(ids, all) {
		p.fail("all elements stand as %v, error %d; want %v", ids, int(err), all)
	}
	at := map[api.ID]int{}
	for i, id := range all {
		at[id] = i
	}
	for v, list := range p.lists {
		if !slices.IsSortedFunc(list, func(a, b api.ID) int { return at[a] - at[b] }) {
			p.fail("with %s %v was shown; the order of all is %v", v, list, all)
		}
		if len(list) > 1 {
			p.saw["texts"]++
		}
	}
	return at
}

// ends is where the first element of an insert stands, and where the last one.
func ends(at map[api.ID]int, o api.Op) (int, int) {
	first, last := at[o.ID], at[o.ID]
	for _, id := range elements(o) {
		first, last = min(first, at[id]), max(last, at[id])
	}
	return first, last
}

// strangers tells whether neither of two operations knew of the other.
func strangers(a, b api.Op) bool {
	return a.Dot != b.Dot && !vector.Has(a.Deps, b.Dot) && !vector.Has(b.Deps, a.Dot)
}

// wantTogether: P0.11: of two texts behind one element, neither of which knew of the other, one stands whole ahead of the other, in the order of all and in all texts.
func (p *play) wantTogether(at map[api.ID]int) {
	p.t.Helper()
	for i, a := range p.placed {
		crowd := 0
		for _, b := range p.placed[:i] {
			if a.op.Ref != b.op.Ref || !strangers(a.op, b.op) {
				continue
			}
			firstA, lastA := ends(at, a.op)
			firstB, lastB := ends(at, b.op)
			if lastA >= firstB && lastB >= firstA {
				p.fail("%+v stands at %d to %d, %+v at %d to %d", a, firstA, lastA, b, firstB, lastB)
			}
			p.wantApart(a.op, b.op, firstA < firstB)
			if len(elements(a.op)) > 1 && len(elements(b.op)) > 1 {
				p.saw["two texts behind one element"]++
				crowd++
			}
			if lastA-firstA >= len(elements(a.op)) && lastB-firstB >= len(elements(b.op)) {
				p.saw["two texts with edits within"]++
			}
		}
		if crowd > 1 {
			p.saw["more texts behind one element"]++
		}
	}
}

// wantApart: in every text all shown ones of the one stand ahead of all of the other.
func (p *play) wantApart(a, b api.Op, ahead bool) {
	p.t.Helper()
	if !ahead {
		a, b = b, a
	}
	ofA, ofB := elements(a), elements(b)
	for _, list := range p.lists {
		seen := false
		for _, id := range list {
			if slices.Contains(ofA, id) && seen {
				p.fail("%+v and %+v are shown as %v", a, b, list)
			}
			seen = seen || slices.Contains(ofB, id)
		}
	}
}

// wantBetween: P0.12: what was inserted between two shown elements stands between them, in the order of all and in all texts.
func (p *play) wantBetween(at map[api.ID]int) {
	p.t.Helper()
	for _, x := range p.placed {
		first, last := ends(at, x.op)
		if x.left != (api.ID{}) && at[x.left] >= first || x.right != (api.ID{}) && at[x.right] <= last {
			p.fail("%+v was inserted between %v at %d and %v at %d; it stands at %d to %d", x.op, x.left, at[x.left], x.right, at[x.right], first, last)
		}
		if x.left == (api.ID{}) || x.right == (api.ID{}) {
			continue
		}
		p.saw["texts between two"]++
		if slices.ContainsFunc(p.placed, func(y placed) bool {
			return strangers(x.op, y.op) && at[x.left] < at[y.op.ID] && at[y.op.ID] < at[x.right]
		}) {
			p.saw["texts between two where others typed"]++
		}
		if slices.ContainsFunc(p.now.issued, func(o api.Op) bool { return strangers(x.op, o) && (names(o, x.left) || names(o, x.right)) }) {
			p.saw["texts between two that others deleted"]++
		}
		for _, list := range p.lists {
			p.wantWithin(x, list)
		}
	}
}

// wantWithin: so it stands in a text.
func (p *play) wantWithin(x placed, list []api.ID) {
	p.t.Helper()
	left, right := slices.Index(list, x.left), slices.Index(list, x.right)
	for _, id := range elements(x.op) {
		if i := slices.Index(list, id); i >= 0 && (left >= 0 && i < left || right >= 0 && i > right) {
			p.fail("%+v was inserted between %v and %v, and is shown as %v", x.op, x.left, x.right, list)
		}
	}
}

// names tells whether a delete names an element.
func names(o api.Op, id api.ID) bool {
	return slices.ContainsFunc(o.Gone, func(r api.Run) bool {
		return r.ID.Site == id.Site && r.ID.Time <= id.Time && id.Time < r.ID.Time+r.Count
	})
}

// TestOrder: P0.2, at every step of many plays.
func TestOrder(t *testing.T) {
	t.Parallel()
	saw := map[string]int{}
	for seed := range rounds(48) {
		m := everyday(2 + seed%15)
		m.late = seed%3 == 0
		m.near = 4 * (seed % 3)
		p := newPlay(t, 2000+seed, someConfig(seeded(2000+seed)), m, saw, watchOrder)
		p.run(150 + 10*m.sites)
		p.order()
	}
	wantSaw(t, saw, rounds(48), "texts", "sites of one vector", "joiners")
}

// crowded is a script in which few frames arrive, and all type and delete at one place.
func crowded(sites int) manner {
	m := everyday(sites)
	m.joins, m.inserts, m.deletes, m.arrivals, m.near = 8, 34, 8, 24, 4
	return m
}

// meet lets all that is under way arrive, and what is said then, for some rounds.
func (p *play) meet(rounds int) {
	p.t.Helper()
	for range rounds {
		p.do(p.tick(nil))
		for _, c := range p.under() {
			p.do(deliver(c.Num))
		}
	}
}

// typeTogether lets all sites know the same, and then type at one place, before any of them hears of another; then within what they typed.
func (p *play) typeTogether() {
	p.t.Helper()
	p.meet(3)
	at := p.chance.Intn(3)
	for _, site := range p.is(active) {
		for range 1 + p.chance.Intn(2) {
			p.do(insert(site, min(at, len([]rune(p.now.looks[site].text))), "ab"+someText(p.chance)))
		}
	}
	p.meet(1)
	for range 2 {
		for _, site := range p.is(active) {
			p.do(pick(p.chance, insert(site, at+1+p.chance.Intn(4), someText(p.chance)), remove(site, at+p.chance.Intn(6), 1)))
		}
	}
}

// TestTogether: P0.11, behind many plays in which sites type at one place.
func TestTogether(t *testing.T) {
	t.Parallel()
	saw := map[string]int{}
	for seed := range rounds(30) {
		m := crowded(2 + seed%15)
		p := newPlay(t, 11000+seed, someConfig(seeded(11000+seed)), m, saw, watchOrder)
		p.run(60)
		if seed%2 == 0 {
			p.typeTogether()
			p.typeTogether()
		} else {
			p.run(90 + 5*m.sites)
		}
		p.meet(2)
		p.wantTogether(p.order())
	}
	wantSaw(t, saw, rounds(30), "two texts behind one element", "more texts behind one element", "two texts with edits within")
}

// TestBetween: P0.12, behind many plays in which sites type and delete at one place.
func TestBetween(t *testing.T) {
	t.Parallel()
	saw := map[string]int{}
	for seed := range rounds(30) {
		m := crowded(2 + seed%15)
		m.deletes = 24
		p := newPlay(t, 12000+seed, someConfig(seeded(12000+seed)), m, saw, watchOrder)
		p.run(120 + 5*m.sites)
		p.meet(2)
		p.wantBetween(p.order())
	}
	wantSaw(t, saw, rounds(30), "texts between two", "texts between two where others typed", "texts between two that others deleted")
}
