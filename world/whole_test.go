package world_test

import (
	"fmt"
	"math/rand"
	"slices"
	"testing"

	"hearsay/api"
	"hearsay/world"
)

// watch is a world that is watched at every step: P21.6, by its own answers alone.
type watch struct {
	t      *testing.T
	c      api.Config
	w      *world.World
	now    map[int]look           // of each site that is not stopped
	under  []api.Copy             // all that are under way
	spoken map[int]map[int]string // what each site showed behind a step at which something was sent
	orders map[string][]api.ID    // the shown ones of some text, in their order
	issued []api.Op
	saw    seen
}

// look is what a site tells.
type look struct {
	text  string
	sight api.Sight
}

func (l look) live() bool { return l.sight.Active && !l.sight.Leaving }

func newWatch(t *testing.T, c api.Config) *watch {
	t.Helper()
	w, err := world.New(c)
	wantErr(t, "New", err, api.OK)
	x := &watch{t: t, c: c, w: w, spoken: map[int]map[int]string{}, orders: map[string][]api.ID{}, saw: seen{}}
	x.observe()
	return x
}

// observe asks all that can be asked.
func (x *watch) observe() {
	x.t.Helper()
	x.now = map[int]look{}
	for _, site := range x.w.Sites() {
		a := x.w.Do(text(site))
		if a.Err == api.ErrGone {
			continue
		}
		s := x.w.Do(sight(site))
		wantErr(x.t, "looking", a.Err, api.OK)
		wantErr(x.t, "looking", s.Err, api.OK)
		x.now[site] = look{a.Text, s.Sight}
	}
	x.under = x.w.Do(copies()).Copies
	x.issued = x.w.Issued()
}

// live is the sites that are.
func (x *watch) live() []int {
	var l []int
	for _, site := range x.w.Sites() {
		if look, ok := x.now[site]; ok && look.live() {
			l = append(l, site)
		}
	}
	return l
}

// do does a step, and holds all against what the whole promises.
func (x *watch) do(s api.Step) api.Answer {
	x.t.Helper()
	before, under, events, issued := x.now, x.under, x.w.Events(), x.issued
	step := x.w.Steps()
	a := x.w.Do(s)
	x.observe()
	x.wantRefused(step, s, a, before, under, events, issued)
	x.wantPlace(s, a, before)
	x.wantAwake(s, a, before)
	news := x.w.Events()[len(events):]
	if slices.ContainsFunc(news, func(e api.Event) bool { return e.Kind == api.EventSent }) {
		x.spoken[step] = map[int]string{}
		for site, look := range x.now {
			x.spoken[step][site] = look.text
		}
	}
	for site, look := range x.now {
		x.wantPast(site, look)
		x.wantBounds(site, look)
		if look.sight.Log < before[site].sight.Log {
			x.saw["cut"]++
		}
	}
	x.wantAlike()
	if x.t.Failed() {
		x.t.Fatalf("at step %d, %s", step, words(s))
	}
	return a
}

// wantRefused: P0.7, P0.9: what is refused changes nothing; but a copy that is refused, as each bad one is where there is somebody, is off the way, which is an event.
func (x *watch) wantRefused(step int, s api.Step, a api.Answer, before map[int]look, under []api.Copy, events []api.Event, issued []api.Op) {
	x.t.Helper()
	if s.Kind == api.StepDeliver && len(a.Copies) == 1 {
		c := a.Copies[0]
		if _, there := before[c.To]; there && (a.Err != api.OK) != c.Bad {
			x.t.Errorf("a copy, bad %v, is answered with error %d", c.Bad, int(a.Err))
		}
		under = slices.DeleteFunc(under, func(o api.Copy) bool { return o.Num == c.Num })
		events = append(events, api.Event{Step: step, Kind: api.EventDelivered, Copy: c.Num, From: c.From, To: c.To, Sent: c.Sent, Bad: c.Bad})
	}
	if a.Err == api.OK {
		return
	}
	if len(a.Copies) == 1 {
		x.saw["bad"]++
	}
	if !slices.EqualFunc(x.under, under, sameCopy) || !slices.Equal(x.w.Events(), events) || !slices.EqualFunc(x.issued, issued, sameOp) || len(x.now) != len(before) {
		x.t.Errorf("error %d, and something changed", int(a.Err))
	}
	for site, look := range x.now {
		if was := before[site]; was.text != look.text || !sameSight(was.sight, look.sight) {
			x.t.Errorf("error %d, and site %d is %s; it was %s", int(a.Err), site, words(look), words(was))
		}
	}
}

// wantPlace: P0.2: a text that is inserted stands at the place that was asked for, at once; so is one gone that is deleted.
func (x *watch) wantPlace(s api.Step, a api.Answer, before map[int]look) {
	x.t.Helper()
	if a.Err != api.OK || s.Kind != api.StepInsert && s.Kind != api.StepDelete {
		return
	}
	was := []rune(before[s.Site].text)
	want := string(was[:s.At]) + s.Text + string(was[s.At:])
	if s.Kind == api.StepDelete {
		want = string(was[:s.At]) + string(was[s.At+s.N:])
	}
	if got := x.now[s.Site].text; got != want {
		x.t.Errorf("site %d shows %q; want %q", s.Site, got, want)
	}
}

// wantAwake: P0.8: a site that becomes active shows what the sender of its image showed when it sent it; and only a copy makes one active.
func (x *watch) wantAwake(s api.Step, a api.Answer, before map[int]look) {
	x.t.Helper()
	for site, look := range x.now {
		if was, there := before[site]; !there || was.sight.Active || !look.sight.Active {
			continue
		}
		x.saw["awake"]++
		if s.Kind != api.StepDeliver || len(a.Copies) != 1 || a.Copies[0].To != site {
			x.t.Errorf("site %d became active", site)
			return
		}
		c := a.Copies[0]
		if want := x.spoken[c.Sent][c.From]; look.text != want {
			x.t.Errorf("site %d shows %q; the image's sender showed %q", site, look.text, want)
		}
	}
}

// wantPast: P0.1: what was delivered is a closed set of what was issued, and text, members and how many elements are kept are what that set says.
func (x *watch) wantPast(site int, l look) {
	x.t.Helper()
	if !l.sight.Active {
		if l.text != "" || len(l.sight.Vector) > 0 || len(l.sight.Members) > 0 {
			x.t.Errorf("an idle site: %s", words(l))
		}
		return
	}
	have, base := vecOf(l.sight.Vector), vecOf(l.sight.Base)
	ops := upto(x.issued, have)
	if len(ops) != have.sum() {
		x.t.Errorf("site %d has %v, of which %d were issued", site, l.sight.Vector, len(ops))
	}
	for _, o := range ops {
		if !have.covers(vecOf(o.Deps)) {
			x.t.Errorf("site %d has %v without what it depends on", site, o.Dot)
		}
	}
	kept := nodes(ops, base)
	text, ids := shown(kept)
	if l.text != text || l.sight.Kept != len(kept) || !slices.Equal(l.sight.Members, members(ops)) {
		x.t.Errorf("site %d: %q, %d kept, members %v; want %q, %d, %v", site, l.text, l.sight.Kept, l.sight.Members, text, len(kept), members(ops))
	}
	if l.sight.Log != have.sum()-base.sum() || !have.covers(base) {
		x.t.Errorf("site %d: base %v, vector %v, %d in the log", site, l.sight.Base, l.sight.Vector, l.sight.Log)
	}
	x.orders[fmt.Sprint(ids)] = ids
}

// wantBounds: P0.5, P0.6: few wait, few are in flight, timers run for as long as they may; and what is cut off every live site has.
func (x *watch) wantBounds(site int, l look) {
	x.t.Helper()
	if len(l.sight.Held) > x.c.Hold {
		x.t.Errorf("site %d: %v wait", site, l.sight.Held)
	}
	for _, p := range l.sight.Peers {
		if len(p.Flight) > x.c.Window || p.Gap != 0 && (p.Gap < x.c.Min || p.Gap > x.c.Max) {
			x.t.Errorf("site %d: %+v", site, p)
		}
	}
	for _, other := range x.live() {
		if v := x.now[other].sight.Vector; !vecOf(v).covers(vecOf(l.sight.Base)) {
			x.t.Errorf("site %d has cut off %v; site %d has %v", site, l.sight.Base, other, v)
		}
	}
}

// wantAlike: P0.2: two active sites of one vector show the same, and know the same members.
func (x *watch) wantAlike() {
	x.t.Helper()
	for a, one := range x.now {
		for b, two := range x.now {
			if a < b && one.sight.Active && two.sight.Active && slices.Equal(one.sight.Vector, two.sight.Vector) {
				x.saw["alike"]++
				if one.text != two.text || !slices.Equal(one.sight.Members, two.sight.Members) {
					x.t.Errorf("of one vector: %s; %s", words(one), words(two))
				}
			}
		}
	}
}

// wantOrder: P0.2: there is one order of all elements, in which every text listed its own.
func (x *watch) wantOrder() {
	x.t.Helper()
	var all []api.ID
	for _, n := range nodes(x.issued, vec{}) {
		all = append(all, n.ID)
	}
	at := map[api.ID]int{}
	for i, id := range all {
		at[id] = i
	}
	for _, ids := range x.orders {
		if !slices.IsSortedFunc(ids, func(a, b api.ID) int { return at[a] - at[b] }) {
			x.t.Errorf("%v stand in another order: %v", ids, all)
		}
	}
}

func (x *watch) underWay() []int {
	var l []int
	for _, c := range x.under {
		l = append(l, c.Num)
	}
	return l
}

func (x *watch) length() int {
	n := 0
	for _, l := range x.now {
		n = max(n, len([]rune(l.text)))
	}
	return n
}

// toPremises stops the sites that are idle or leave, loses what stopped ones said, and lets the others talk until each is a member for each; it tells whether they are. (They may not come to it: two sites may know of each other only what stopped ones never told.)
func (x *watch) toPremises(p player) bool {
	x.t.Helper()
	for range 60 {
		for _, site := range x.w.Sites() {
			if look, there := x.now[site]; there && !look.live() {
				x.do(stop(site))
			}
		}
		for _, c := range x.under {
			if _, there := x.now[c.From]; !there {
				x.do(drop(c.Num))
			}
		}
		if x.known() {
			return true
		}
		x.do(tick(p.draws()...))
		for _, c := range x.under {
			x.do(deliver(c.Num))
		}
	}
	return false
}

// known tells whether each live site is a member for each.
func (x *watch) known() bool {
	for _, site := range x.live() {
		for _, other := range x.live() {
			if !slices.Contains(x.now[site].sight.Members, other) {
				return false
			}
		}
	}
	return true
}

// still tells whether all live sites have the same.
func (x *watch) still() bool {
	live := x.live()
	for _, site := range live {
		if !slices.Equal(x.now[site].sight.Vector, x.now[live[0]].sight.Vector) {
			return false
		}
	}
	return true
}

// quiet is any step but an edit, a join, a leave and a stop; what it does to copies is mostly harm.
func (p player) quiet(under []int) api.Step {
	switch k := p.chance.Intn(100); {
	case k < 30:
		return tick(p.draws()...)
	case k < 70:
		return deliver(p.number(under))
	case k < 84:
		return drop(p.number(under))
	case k < 92:
		return double(p.number(under))
	case k < 96:
		return alter(p.number(under), p.chance.Intn(40), string(p.bytes()))
	}
	return cut(p.number(under), p.chance.Intn(40))
}

// fairly plays quiet steps, unwatched, until there were so many fair windows of the live sites.
func (x *watch) fairly(p player, many int) {
	x.t.Helper()
	live, from := x.live(), x.w.Steps()
	if len(live) < 2 {
		return
	}
	first := len(x.w.Events())
	for n := 0; ; n++ {
		var under []int
		for _, c := range x.w.Do(copies()).Copies {
			under = append(under, c.Num)
		}
		// What piles up is lost, as scripts are long.
		for len(under) > 30 {
			i := p.chance.Intn(len(under))
			x.w.Do(drop(under[i]))
			under = slices.Delete(under, i, i+1)
		}
		x.w.Do(p.quiet(under))
		if n%200 == 199 && windows(x.w.Events()[first:], live, from) >= many {
			break
		}
		if n > 400000 {
			x.t.Fatal("there is no fair window")
		}
	}
	x.observe()
}

// barely plays so many fair windows in which no more arrives than must: of each site to each other one the one frame that it is made to draw, or what its timer lets go out; all else is lost.
func (x *watch) barely(p player, many int) {
	x.t.Helper()
	live, from, first := x.live(), x.w.Steps(), len(x.w.Events())
	var ways [][2]int
	for _, a := range live {
		for _, b := range live {
			if a != b {
				ways = append(ways, [2]int{a, b})
			}
		}
	}
	for range many {
		p.chance.Shuffle(len(ways), func(i, k int) { ways[i], ways[k] = ways[k], ways[i] })
		for _, way := range ways {
			x.w.Do(tick(x.drawing(way[0], way[1])...))
			arrived := false
			for _, c := range x.w.Do(copies()).Copies {
				if c.From == way[0] && c.To == way[1] && c.Sent >= from && !arrived {
					arrived = true
					wantErr(x.t, "deliver", x.w.Do(deliver(c.Num)).Err, api.OK)
				}
			}
			for _, c := range x.w.Do(copies()).Copies {
				x.w.Do(drop(c.Num))
			}
		}
	}
	if n := windows(x.w.Events()[first:], live, from); len(live) > 1 && n < many {
		x.t.Fatalf("%d fair windows of %d", n, many)
	}
	x.observe()
}

// drawing is draws by which a site draws another one.
func (x *watch) drawing(site, other int) []int {
	var draws []int
	for _, n := range x.w.Sites() {
		a := x.w.Do(sight(n))
		if a.Err != api.OK {
			continue
		}
		others := slices.DeleteFunc(a.Sight.Members, func(m int) bool { return m == n })
		draws = append(draws, 0)
		if n == site {
			draws[len(draws)-1] = slices.Index(others, other)
		}
	}
	return draws
}

// wantStill: P0.4: where all live sites have the same, nothing changes any more, whatever comes but edits, joins and leaves.
func (x *watch) wantStill(p player) {
	x.t.Helper()
	was := x.now
	for range 60 {
		s := p.quiet(x.underWay())
		if p.chance.Intn(40) == 0 {
			s = stop(p.site())
		}
		x.do(s)
		for site, look := range x.now {
			if look.text != was[site].text || !slices.Equal(look.sight.Vector, was[site].sight.Vector) {
				x.t.Fatalf("site %d changed: %s; it was %s", site, words(look), words(was[site]))
			}
		}
	}
}

// wantForgotten: P0.13: where all members are live, no log has more than it may keep.
func (x *watch) wantForgotten() {
	x.t.Helper()
	live := x.live()
	for _, site := range live {
		for _, member := range x.now[site].sight.Members {
			if !slices.Contains(live, member) {
				return
			}
		}
	}
	for _, site := range live {
		x.saw["forgotten"]++
		if n := x.now[site].sight.Log; n > x.c.Keep {
			x.t.Fatalf("site %d keeps %d operations, more than %d", site, n, x.c.Keep)
		}
	}
}

// TestWhole: P21.6: P0.1, P0.2, P0.5 to P0.9 at every step of many scripts; behind each, P0.3, P0.4 and P0.13.
func TestWhole(t *testing.T) {
	saw := seen{}
	for seed := range rounds(160) {
		chance := rand.New(rand.NewSource(int64(seed) + 1<<20))
		p := player{chance, 2 + chance.Intn(4), false}
		x := newWatch(t, someConfig(chance))
		for range 40 + chance.Intn(120) {
			x.do(p.step(x.underWay(), x.length()))
		}
		x.wantOrder()
		if !x.toPremises(p) {
			saw["apart"]++
			continue
		}
		for range 6 {
			for _, site := range x.live() {
				x.do(insert(site, 0, p.text()))
				x.do(remove(site, p.chance.Intn(3), 1))
			}
			x.do(tick(p.draws()...))
		}
		for _, c := range x.under {
			x.do([]api.Step{deliver(c.Num), copies(), drop(c.Num)}[chance.Intn(3)])
		}
		if !x.still() {
			x.saw["to settle"]++
		}
		many := 2 * len(x.issued)
		if seed%2 == 0 {
			x.fairly(p, many)
		} else {
			x.barely(p, many)
		}
		if !x.still() {
			t.Fatalf("seed %d: behind %d windows it has not settled", seed, many)
		}
		for _, site := range x.live() {
			if x.now[site].text != x.now[x.live()[0]].text {
				t.Fatalf("seed %d: %q; %q", seed, x.now[site].text, x.now[x.live()[0]].text)
			}
		}
		x.barely(p, 1)
		x.wantForgotten()
		x.wantStill(p)
		x.wantOrder()
		for what, n := range x.saw {
			saw[what] += n
		}
	}
	for _, what := range []string{"cut", "bad", "awake", "alike", "to settle", "forgotten"} {
		if saw[what] == 0 && !testing.Short() {
			t.Errorf("no script came to: %s", what)
		}
	}
}
