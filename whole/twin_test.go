package whole_test

import (
	"slices"

	"hearsay/api"
	"hearsay/replica"
)

// twin is the sites of a world once more, as Replicas that are told the same: so what a world does not tell can be asked of these.
type twin struct {
	sites map[int]*replica.Replica // those that are stopped are not there
}

func newTwin(p *play) *twin {
	founder, err := replica.Found(1, p.c)
	if err != api.OK {
		p.fail("Found: error %d", int(err))
	}
	return &twin{map[int]*replica.Replica{1: founder}}
}

// wantTwin tells the twin of a step, and holds what the world did against what the twin does.
func (p *play) wantTwin(before moment, s api.Step, a api.Answer) {
	p.t.Helper()
	sent := p.twin.do(p, s, a)
	was := map[int]bool{}
	for _, c := range before.under {
		was[c.Num] = true
	}
	var news []api.Copy
	for _, c := range p.now.under {
		if !was[c.Num] {
			news = append(news, api.Copy{From: c.From, To: c.To, Data: c.Data, Sent: c.Sent - p.now.step})
		}
	}
	if s.Kind != api.StepDouble && !slices.EqualFunc(news, sent, sameCopy) {
		p.fail("%s: what goes out is %s; it must be %s", words(told(s, a)), words(news), words(sent))
	}
	for site, r := range p.twin.sites {
		if twin := (look{r.Text(), r.Sight()}); !sameLook(twin, p.now.looks[site]) {
			p.fail("%s: site %d: %s; it must be %s", words(told(s, a)), site, words(p.now.looks[site]), words(twin))
		}
	}
}

// do does a step at the sites; it answers what goes out, without numbers.
func (w *twin) do(p *play, s api.Step, a api.Answer) []api.Copy {
	p.t.Helper()
	if a.Err != api.OK && (s.Kind != api.StepDeliver || len(a.Copies) == 0) {
		return nil
	}
	r := w.sites[s.Site]
	switch s.Kind {
	case api.StepInsert:
		w.wantOp(p, s, a)(r.Insert(s.At, s.Text))
	case api.StepDelete:
		w.wantOp(p, s, a)(r.Delete(s.At, s.N))
	case api.StepJoin:
		w.wantOp(p, s, a)(w.sites[s.Peer].Join(s.Site))
		w.sites[s.Site], _ = replica.Idle(s.Site, p.c)
	case api.StepLeave:
		w.wantOp(p, s, a)(r.Leave())
	case api.StepStop:
		delete(w.sites, s.Site)
	case api.StepTick:
		return w.tick(s.Draws)
	case api.StepDeliver:
		return w.deliver(p, a)
	}
	return nil
}

// wantOp takes what a site answered to an edit.
func (w *twin) wantOp(p *play, s api.Step, a api.Answer) func(api.Op, api.Errno) {
	return func(o api.Op, err api.Errno) {
		p.t.Helper()
		if err != a.Err || !sameOp(o, a.Op) {
			p.fail("%s; it must be %s, error %d", words(told(s, a)), words(o), int(err))
		}
	}
}

func (w *twin) tick(draws []int) []api.Copy {
	var sent []api.Copy
	for site := 1; site <= api.MaxSites; site++ {
		r := w.sites[site]
		if r == nil {
			continue
		}
		due, _ := r.Tick()
		sent = append(sent, sentBy(site, due)...)
		d := 0
		if len(draws) > 0 {
			d, draws = draws[0], draws[1:]
		}
		sight := r.Sight()
		others := slices.DeleteFunc(sight.Members, func(m int) bool { return m == site })
		if sight.Active && len(others) > 0 {
			n := len(others)
			drawn, _ := r.Draw(others[(d%n+n)%n])
			sent = append(sent, sentBy(site, drawn)...)
		}
	}
	return sent
}

func (w *twin) deliver(p *play, a api.Answer) []api.Copy {
	p.t.Helper()
	c := a.Copies[0]
	r := w.sites[c.To]
	if r == nil {
		return nil
	}
	out, err := r.Receive(c.Data)
	if err != a.Err {
		p.fail("copy %d is answered with error %d; it must be %d", c.Num, int(a.Err), int(err))
	}
	return sentBy(c.To, out)
}

func sentBy(site int, out []replica.Out) []api.Copy {
	var l []api.Copy
	for _, o := range out {
		l = append(l, api.Copy{From: site, To: o.To, Data: o.Data})
	}
	return l
}
