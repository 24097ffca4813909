package whole_test

import (
	"maps"
	"math/rand"
	"slices"
	"testing"

	"hearsay/api"
	"hearsay/world"
)

// look is what a site tells.
type look struct {
	text  string
	sight api.Sight
}

// live is what DOC.md says: active, not leaving, not stopped. (Of one that is stopped there is no look.)
func (l look) live() bool { return l.sight.Active && !l.sight.Leaving }

// moment is all that can be seen of a world behind a step.
type moment struct {
	step   int // the last one's number
	looks  map[int]look
	under  []api.Copy
	events []api.Event
	issued []api.Op
}

// live is the sites that are, rising.
func (m moment) live() []int {
	var l []int
	for _, site := range slices.Sorted(maps.Keys(m.looks)) {
		if m.looks[site].live() {
			l = append(l, site)
		}
	}
	return l
}

// watcher is asked behind every step: what was seen ahead of it, the step, its answer; what is seen now is the play's.
type watcher func(p *play, before moment, s api.Step, a api.Answer)

// play is a world that is played and watched.
type play struct {
	t        *testing.T
	seed     int
	chance   *rand.Rand
	c        api.Config
	m        manner
	w        *world.World
	twin     *twin
	watchers []watcher
	now      moment
	saw      map[string]int // what came up, over all plays of a test

	made   map[int]state     // each site that there was
	until  map[int]int       // up to which step what goes to an idle site is held back
	plan   []func() api.Step // what comes next, whatever chance says
	said   map[string]said   // by what a site has, and its base
	placed []placed
	lists  map[string][]api.ID // what was shown, by what a site had that showed it

	spoken map[int]map[int]string // what each site that spoke at a step showed behind it

	calm bool // P0.4's premises held, and there was no edit, join or leave since

	shownBefore map[int][]api.ID // what each site showed behind the last step
}

// state is what a site has come to.
type state int

const (
	idle state = iota + 1
	active
	leaving
	stopped
)

// newPlay is the play of a seed. Its watchers see what there is ahead of the first step, too.
func newPlay(t *testing.T, seed int, c api.Config, m manner, saw map[string]int, watchers ...watcher) *play {
	t.Helper()
	w, err := world.New(c)
	if err != api.OK {
		t.Fatalf("New(%+v): error %d", c, int(err))
	}
	p := &play{t: t, seed: seed, chance: rand.New(rand.NewSource(int64(seed))), c: c, m: m, w: w, watchers: watchers, saw: saw}
	p.made, p.until, p.said, p.lists = map[int]state{1: active}, map[int]int{}, map[string]said{}, map[string][]api.ID{}
	p.spoken = map[int]map[int]string{}
	if len(watchers) > 0 {
		p.twin = newTwin(p)
	}
	p.observe()
	p.asked(p.now, api.Step{}, api.Answer{})
	return p
}

// fail ends the test.
func (p *play) fail(format string, args ...any) {
	p.t.Helper()
	p.t.Fatalf("seed %d, %+v, behind step %d: "+format, append([]any{p.seed, p.c, p.now.step}, args...)...)
}

// is is the sites of some states, rising.
func (p *play) is(states ...state) []int {
	var l []int
	for _, site := range p.w.Sites() {
		if slices.Contains(states, p.made[site]) {
			l = append(l, site)
		}
	}
	return l
}

// under is the copies that are under way.
func (p *play) under() []api.Copy { return p.w.Do(copies()).Copies }

// sight is what a site tells of itself.
func (p *play) sight(site int) api.Sight { return p.w.Do(sight(site)).Sight }

// shows is what it shows.
func (p *play) shows(site int) string { return p.w.Do(text(site)).Text }

// observe asks all that can be asked.
func (p *play) observe() {
	p.t.Helper()
	p.now = moment{looks: map[int]look{}, events: p.w.Events(), issued: p.w.Issued()}
	for _, site := range p.w.Sites() {
		a, s := p.w.Do(text(site)), p.w.Do(sight(site))
		if a.Err != s.Err || a.Err != api.OK && a.Err != api.ErrGone {
			p.fail("looking at site %d: errors %d, %d", site, int(a.Err), int(s.Err))
		}
		if a.Err == api.OK {
			p.now.looks[site] = look{a.Text, s.Sight}
		}
	}
	p.now.under = p.under()
}

// do does a step; where somebody watches, all is looked at behind it.
func (p *play) do(s api.Step) api.Answer {
	p.t.Helper()
	before, step := p.now, p.w.Steps()
	a := p.w.Do(s)
	p.wantTaken(s, a)
	p.note(s, a)
	if len(p.watchers) > 0 {
		p.observe()
		p.now.step = step
		p.wantTwin(before, s, a)
		p.asked(before, s, a)
	}
	p.now.step = step
	return a
}

// wantTaken: a copy that arrives at a site is refused, if it was altered or cut off, and only then: sites tell one another what is true.
func (p *play) wantTaken(s api.Step, a api.Answer) {
	p.t.Helper()
	if s.Kind != api.StepDeliver || len(a.Copies) == 0 || p.made[a.Copies[0].To] == stopped {
		return
	}
	if c := a.Copies[0]; c.Bad != (a.Err != api.OK) {
		p.fail("%s: the copy is bad: %v", words(told(s, a)), c.Bad)
	}
}

func (p *play) asked(before moment, s api.Step, a api.Answer) {
	p.t.Helper()
	for _, ask := range p.watchers {
		ask(p, before, s, a)
		if p.t.Failed() {
			p.fail("the step was %s", words(told(s, a)))
		}
	}
}

// note keeps in mind what became of the sites.
func (p *play) note(s api.Step, a api.Answer) {
	if a.Err != api.OK {
		return
	}
	switch s.Kind {
	case api.StepJoin:
		p.made[s.Site] = idle
	case api.StepLeave:
		p.made[s.Site] = leaving
	case api.StepStop:
		p.made[s.Site] = stopped
	case api.StepDeliver:
		if to := a.Copies[0].To; p.made[to] == idle {
			p.made[to] = active
			p.saw["joiners"]++
		}
	}
}
