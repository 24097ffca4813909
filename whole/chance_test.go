package whole_test

import (
	"math/rand"
	"slices"
	"testing"

	"hearsay/api"
)

// manner is of what a script is made: how often each kind of step comes.
type manner struct {
	sites                                           int // so many join in all
	inserts, deletes, joins, leaves, stops          int
	ticks, arrivals, losses, doubles, harms, others int
	near                                            int  // edits stand at the first so many places; 0: anywhere
	crowd                                           int  // more copies than that are not under way for long
	late                                            bool // images linger, and some sponsors stop
}

// everyday is a script of all kinds of steps.
func everyday(sites int) manner {
	return manner{
		sites: sites, inserts: 16, deletes: 7, joins: 6, leaves: 1, stops: 1,
		ticks: 10, arrivals: 44, losses: 5, doubles: 4, harms: 4, others: 2, crowd: 3*sites + 6,
	}
}

// quiet is the same, with edits, joins, leaves and stops left out.
func (m manner) quiet() manner {
	m.inserts, m.deletes, m.joins, m.leaves, m.stops = 0, 0, 0, 0, 0
	return m
}

// seeded is a source of chance of its own.
func seeded(seed int) *rand.Rand { return rand.New(rand.NewSource(int64(seed) + 1<<32)) }

// rounds is how many plays there are.
func rounds(all int) int {
	if testing.Short() {
		return (all + 7) / 8
	}
	return all
}

// pick is one of some things.
func pick[T any](chance *rand.Rand, of ...T) T { return of[chance.Intn(len(of))] }

// someConfig is a Config of small numbers, most of them as small as may be, so that all limits are met.
func someConfig(chance *rand.Rand) api.Config {
	least := pick(chance, 1, 1, 2, 3)
	return api.Config{
		Hold:   pick(chance, 0, 0, 1, 2, 5, api.MaxHold),
		Window: pick(chance, 1, 1, 2, 3, api.MaxWindow),
		Push:   pick(chance, 1, 1, 2, 5, api.MaxPush),
		Min:    least,
		Max:    least + pick(chance, 0, 1, 6),
		Keep:   pick(chance, 0, 0, 1, 3, 9, api.MaxKeep),
	}
}

// leastConfig is the one that has the least of all.
func leastConfig() api.Config { return api.Config{Window: 1, Push: 1, Min: 1, Max: 1} }

// wantSaw: nothing that the plays should come to is left out by chance.
func wantSaw(t *testing.T, saw map[string]int, least int, what ...string) {
	t.Helper()
	for _, w := range what {
		if saw[w] < least && !testing.Short() {
			t.Errorf("%s: %d times; that should be %d at least", w, saw[w], least)
		}
	}
}

// run does so many steps by chance.
func (p *play) run(steps int) {
	p.t.Helper()
	for range steps {
		p.do(p.next())
	}
}

// next is what comes next.
func (p *play) next() api.Step {
	if len(p.plan) > 0 {
		next := p.plan[0]
		p.plan = p.plan[1:]
		return next()
	}
	under := p.under()
	if s, ok := p.release(under); ok {
		return s
	}
	under = slices.DeleteFunc(under, func(c api.Copy) bool { return p.heldBack(c) })
	if len(under) > p.m.crowd {
		return p.clear(under)
	}
	weights := []int{p.m.inserts, p.m.deletes, p.m.joins, p.m.leaves, p.m.stops, p.m.ticks, p.m.arrivals, p.m.losses, p.m.doubles, p.m.harms, p.m.others}
	makers := []func([]api.Copy) api.Step{p.insert, p.delete, p.join, p.leave, p.stop, p.tick, p.arrive, p.lose, p.double, p.harm, p.other}
	sum := 0
	for _, w := range weights {
		sum += w
	}
	k := p.chance.Intn(sum)
	for i, w := range weights {
		if k < w {
			return makers[i](under)
		}
		k -= w
	}
	return copies()
}

// heldBack tells whether a copy lingers: one to a site that waits for its first image.
func (p *play) heldBack(c api.Copy) bool { return p.made[c.To] == idle && p.until[c.To] > 0 }

// release lets the oldest image arrive that lingered long enough; of those to one site that linger the newer ones are lost.
func (p *play) release(under []api.Copy) (api.Step, bool) {
	linger := map[int]int{}
	for _, c := range under {
		if !p.heldBack(c) {
			continue
		}
		if p.w.Steps() > p.until[c.To] {
			delete(p.until, c.To)
			p.saw["late images"]++
			return deliver(c.Num), true
		}
		if linger[c.To]++; linger[c.To] > 2 {
			return drop(c.Num), true
		}
	}
	return api.Step{}, false
}

// clear lets a copy arrive, or loses it, as there are too many; those that nobody will hear first.
func (p *play) clear(under []api.Copy) api.Step {
	c := pick(p.chance, under...)
	if i := slices.IndexFunc(under, func(c api.Copy) bool { return p.made[c.To] == stopped }); i >= 0 {
		c = under[i]
	}
	if p.chance.Intn(3) == 0 {
		return drop(c.Num)
	}
	return deliver(c.Num)
}

// editor is a site that may edit; seldom one that may not.
func (p *play) editor() int {
	if there := p.is(active); len(there) > 0 && p.chance.Intn(16) > 0 {
		return pick(p.chance, there...)
	}
	return 1 + p.chance.Intn(p.m.sites)
}

// place is a place in what a site shows.
func (p *play) place(site, more int) int {
	n := len([]rune(p.shows(site))) + more
	if p.m.near > 0 {
		n = min(n, p.m.near)
	}
	return p.chance.Intn(max(n, 1))
}

const letters = "abcdefghijklmnopqrstuvwxyz éñ€中𝄞😀\u0301\r\n"

func someText(chance *rand.Rand) string {
	runes := []rune(letters)
	var l []rune
	for range 1 + chance.Intn(4) {
		l = append(l, pick(chance, runes...))
	}
	return string(l)
}

func (p *play) insert([]api.Copy) api.Step {
	site := p.editor()
	return insert(site, p.place(site, 1), someText(p.chance))
}

func (p *play) delete([]api.Copy) api.Step {
	site := p.editor()
	return remove(site, p.place(site, 0), pick(p.chance, 1, 1, 2, 3, 3, 9))
}

// join lets the next site in. Where images linger, the sponsor speaks to it at once; and where sponsors stop, it stops then.
func (p *play) join([]api.Copy) api.Step {
	site, sponsor := len(p.w.Sites())+1, p.editor()
	if site > p.m.sites || p.made[sponsor] != active {
		return tick()
	}
	if p.m.late && p.chance.Intn(2) == 0 {
		p.until[site] = p.w.Steps() + p.long(10+p.chance.Intn(90))
	}
	if p.m.late && p.m.stops > 0 && len(p.is(active)) > 2 && p.chance.Intn(3) == 0 {
		p.plan = append(p.plan,
			func() api.Step { return tick(p.drawing(sponsor, site)...) },
			func() api.Step { return stop(sponsor) },
		)
		p.saw["sponsors that stop"]++
	} else if p.m.late && p.m.leaves > 0 && len(p.is(active)) > 2 && p.chance.Intn(3) == 0 {
		p.plan = append(p.plan,
			func() api.Step { return tick(p.drawing(sponsor, site)...) },
			func() api.Step { return leave(sponsor) },
		)
		p.saw["sponsors that leave"]++
	}
	return join(site, sponsor)
}

// long is how many steps of the world so many of the script are, with those that look at it.
func (p *play) long(steps int) int {
	if len(p.watchers) == 0 {
		return 2 * steps
	}
	return (2*len(p.w.Sites()) + 3) * steps
}

// drawing is draws by which a site draws another one; the others draw anybody.
func (p *play) drawing(site, other int) []int {
	var draws []int
	for _, here := range p.is(idle, active, leaving) {
		d := p.chance.Intn(p.m.sites)
		if here == site {
			others := slices.DeleteFunc(p.sight(site).Members, func(m int) bool { return m == site })
			d = slices.Index(others, other)
		}
		draws = append(draws, d)
	}
	return draws
}

func (p *play) leave([]api.Copy) api.Step {
	if len(p.is(active)) < 3 {
		return tick()
	}
	p.saw["leavers"]++
	return leave(pick(p.chance, p.is(active)...))
}

func (p *play) stop([]api.Copy) api.Step {
	if len(p.is(active)) < 3 {
		return tick()
	}
	return stop(1 + p.chance.Intn(len(p.w.Sites())))
}

func (p *play) tick([]api.Copy) api.Step {
	var draws []int
	for range p.chance.Intn(len(p.w.Sites()) + 1) {
		draws = append(draws, p.chance.Intn(2*p.m.sites)-p.m.sites/2)
	}
	return tick(draws...)
}

// number is that of some copy.
func (p *play) number(under []api.Copy) int {
	if len(under) == 0 {
		return p.chance.Intn(9)
	}
	return pick(p.chance, under...).Num
}

func (p *play) arrive(under []api.Copy) api.Step { return deliver(p.number(under)) }

func (p *play) lose(under []api.Copy) api.Step { return drop(p.number(under)) }

func (p *play) double(under []api.Copy) api.Step { return double(p.number(under)) }

// harm alters a copy, or cuts it off.
func (p *play) harm(under []api.Copy) api.Step {
	if len(under) == 0 {
		return tick()
	}
	c := pick(p.chance, under...)
	at := p.chance.Intn(len(c.Data) + 1)
	if p.chance.Intn(3) == 0 {
		return cut(c.Num, at)
	}
	return alter(c.Num, at, someBytes(p.chance, 1+p.chance.Intn(4))...)
}

func someBytes(chance *rand.Rand, n int) []byte {
	b := make([]byte, n)
	for i := range b {
		b[i] = byte(chance.Intn(256))
	}
	return b
}

// other is a step that asks, or one that is none.
func (p *play) other([]api.Copy) api.Step {
	site := 1 + p.chance.Intn(p.m.sites)
	return pick(p.chance, text(site), sight(site), copies(), api.Step{Kind: 15}, insert(site, -1, "x"), join(site, site), deliver(0))
}
