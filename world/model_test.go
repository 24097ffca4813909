package world_test

import (
	"math/big"
	"strings"

	"hearsay/api"
	"hearsay/replica"
)

// What the chapter says, worked out a second time by other means: which copies are under way is told by the events alone, bytes are strings, sites are asked one number behind the other. The sites themselves are chapter 18's, but others than the world's.

type model struct {
	c      api.Config
	steps  int
	past   []api.Step
	sites  [api.MaxSites + 1]home
	issued []api.Op
	events []api.Event
	frames []string       // as they were sent: of the copy n the element n - 1
	spoilt map[int]string // what became of a copy's bytes
}

// home is where a site is, if it is there.
type home struct {
	made, stopped bool
	site          *replica.Replica
}

func newModel(c api.Config) *model {
	founder, err := replica.Found(1, c)
	if err != api.OK {
		return nil
	}
	m := &model{c: c, spoilt: map[int]string{}}
	m.sites[1] = home{made: true, site: founder}
	m.issued = []api.Op{{Kind: api.OpJoin, Dot: api.Dot{Site: 1, Seq: 1}, Site: 1}}
	return m
}

// home is where a site of a number is; of a number that is none, nowhere.
func (m *model) home(site int) home {
	for n, h := range m.sites {
		if n == site {
			return h
		}
	}
	return home{}
}

// numbers is the sites that there are.
func (m *model) numbers() []int {
	var l []int
	for n, h := range m.sites {
		if h.made {
			l = append(l, n)
		}
	}
	return l
}

// missing is why there is nothing to be done at a site.
func (h home) missing() api.Errno {
	switch {
	case !h.made:
		return api.ErrNone
	case h.stopped:
		return api.ErrGone
	}
	return api.OK
}

// copies is those that are under way: what was sent, and neither arrived nor was lost.
func (m *model) copies() []api.Copy {
	gone := map[int]int{}
	for _, e := range m.events {
		if e.Kind != api.EventSent {
			gone[e.Copy]++
		}
	}
	var l []api.Copy
	for _, e := range m.events {
		if e.Kind == api.EventSent && gone[e.Copy] == 0 {
			c := api.Copy{Num: e.Copy, From: e.From, To: e.To, Sent: e.Sent, Data: []byte(m.frames[e.Copy-1])}
			if data, bad := m.spoilt[e.Copy]; bad {
				c.Data, c.Bad = []byte(data), true
			}
			l = append(l, c)
		}
	}
	return l
}

// copy is the one of a number that is under way.
func (m *model) copy(num int) (api.Copy, api.Errno) {
	for _, c := range m.copies() {
		if c.Num == num {
			return c, api.OK
		}
	}
	return api.Copy{}, api.ErrNone
}

func (m *model) sent(step, from, to int, frame string) api.Copy {
	m.frames = append(m.frames, frame)
	e := api.Event{Step: m.steps, Kind: api.EventSent, Copy: len(m.frames), From: from, To: to, Sent: step}
	m.events = append(m.events, e)
	return api.Copy{Num: e.Copy, From: from, To: to, Sent: step, Data: []byte(frame)}
}

func (m *model) ended(kind int, c api.Copy) {
	m.events = append(m.events, api.Event{Step: m.steps, Kind: kind, Copy: c.Num, From: c.From, To: c.To, Sent: c.Sent, Bad: c.Bad})
}

func (m *model) layOut(from int, out []replica.Out) {
	for _, x := range out {
		m.sent(m.steps, from, x.To, string(x.Data))
	}
}

// do does a step.
func (m *model) do(s api.Step) api.Answer {
	var a api.Answer
	switch s.Kind {
	case api.StepInsert, api.StepDelete, api.StepJoin, api.StepLeave:
		a.Op, a.Err = m.edit(s)
	case api.StepStop, api.StepText, api.StepSight:
		a = m.ask(s)
	case api.StepTick:
		m.tick(s.Draws)
	case api.StepDeliver, api.StepDrop, api.StepDouble:
		a = m.move(s)
	case api.StepAlter:
		a.Err = m.alter(s.N, s.At, string(s.Data))
	case api.StepCut:
		a.Err = m.cut(s.N, s.At)
	case api.StepCopies:
		a.Copies = m.copies()
	default:
		a.Err = api.ErrStep
	}
	m.steps++
	m.past = append(m.past, s)
	return a
}

func (m *model) edit(s api.Step) (o api.Op, err api.Errno) {
	at := s.Site
	if s.Kind == api.StepJoin {
		at = s.Peer
	}
	h := m.home(at)
	if err := h.missing(); err != api.OK {
		return api.Op{}, err
	}
	switch s.Kind {
	case api.StepInsert:
		o, err = h.site.Insert(s.At, s.Text)
	case api.StepDelete:
		o, err = h.site.Delete(s.At, s.N)
	case api.StepLeave:
		o, err = h.site.Leave()
	case api.StepJoin:
		if m.home(s.Site).made {
			return api.Op{}, api.ErrExists
		}
		if o, err = h.site.Join(s.Site); err == api.OK {
			idle, _ := replica.Idle(s.Site, m.c)
			m.sites[s.Site] = home{made: true, site: idle}
		}
	}
	if err == api.OK {
		m.issued = append(m.issued, cloneOp(o))
	}
	return o, err
}

func (m *model) ask(s api.Step) api.Answer {
	h := m.home(s.Site)
	if err := h.missing(); err != api.OK {
		return api.Answer{Err: err}
	}
	switch s.Kind {
	case api.StepText:
		return api.Answer{Text: h.site.Text()}
	case api.StepSight:
		return api.Answer{Sight: h.site.Sight()}
	}
	m.sites[s.Site].stopped = true
	return api.Answer{}
}

func (m *model) tick(draws []int) {
	k := -1
	for n, h := range m.sites {
		if h.missing() != api.OK {
			continue
		}
		k++
		out, _ := h.site.Tick()
		m.layOut(n, out)
		var others []int
		for _, member := range h.site.Sight().Members {
			if member != n {
				others = append(others, member)
			}
		}
		if !h.site.Sight().Active || len(others) == 0 {
			continue
		}
		d := big.NewInt(0)
		for i, x := range draws {
			if i == k {
				d = big.NewInt(int64(x))
			}
		}
		d.Mod(d, big.NewInt(int64(len(others)))) // never below 0
		out, _ = h.site.Draw(others[d.Int64()])
		m.layOut(n, out)
	}
}

// move is what becomes of a copy that is under way.
func (m *model) move(s api.Step) api.Answer {
	c, err := m.copy(s.N)
	if err != api.OK {
		return api.Answer{Err: err}
	}
	if s.Kind == api.StepDouble {
		return api.Answer{Copies: []api.Copy{m.sent(c.Sent, c.From, c.To, m.frames[c.Num-1])}}
	}
	if s.Kind == api.StepDrop || m.home(c.To).missing() != api.OK {
		m.ended(api.EventDropped, c)
		return api.Answer{Copies: []api.Copy{c}}
	}
	m.ended(api.EventDelivered, c)
	out, err := m.home(c.To).site.Receive([]byte(string(c.Data)))
	m.layOut(c.To, out)
	return api.Answer{Err: err, Copies: []api.Copy{c}}
}

func (m *model) alter(num, at int, by string) api.Errno {
	c, err := m.copy(num)
	if err != api.OK {
		return err
	}
	data := string(c.Data)
	if by == "" || len(by) > 4 || at < 0 || at > len(data) || len(data[at:]) < len(by) || strings.HasPrefix(data[at:], by) {
		return api.ErrArg
	}
	if c.Bad {
		return api.ErrExists
	}
	m.spoilt[num] = data[:at] + by + data[at+len(by):]
	return api.OK
}

func (m *model) cut(num, size int) api.Errno {
	c, err := m.copy(num)
	if err != api.OK {
		return err
	}
	if size < 0 || size >= len(c.Data) {
		return api.ErrArg
	}
	if c.Bad {
		return api.ErrExists
	}
	m.spoilt[num] = string(c.Data[:size])
	return api.OK
}
