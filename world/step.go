package world

import (
	"slices"

	"hearsay/api"
	"hearsay/replica"
)

// doing is what a step does in a World.
type doing func(*World, api.Step) api.Answer

// allKinds is what a step of each kind does.
func allKinds() map[int]doing {
	return map[int]doing{
		api.StepInsert:  (*World).insert,
		api.StepDelete:  (*World).delete,
		api.StepJoin:    (*World).join,
		api.StepLeave:   (*World).leave,
		api.StepStop:    (*World).stop,
		api.StepTick:    (*World).tick,
		api.StepDeliver: (*World).deliver,
		api.StepDrop:    (*World).drop,
		api.StepDouble:  (*World).double,
		api.StepAlter:   (*World).alter,
		api.StepCut:     (*World).cut,
		api.StepText:    (*World).text,
		api.StepSight:   (*World).sight,
		api.StepCopies:  (*World).copies,
	}
}

// refuse is for the kinds that there are not.
func (w *World) refuse(api.Step) api.Answer { return api.Answer{Err: api.ErrStep} }

func (w *World) insert(s api.Step) api.Answer {
	return w.edit(s.Site, func(r *replica.Replica) (api.Op, api.Errno) { return r.Insert(s.At, s.Text) })
}

func (w *World) delete(s api.Step) api.Answer {
	return w.edit(s.Site, func(r *replica.Replica) (api.Op, api.Errno) { return r.Delete(s.At, s.N) })
}

func (w *World) join(s api.Step) api.Answer {
	answer := w.edit(s.Peer, func(sponsor *replica.Replica) (api.Op, api.Errno) {
		// The sponsor may not have heard of a site that another one has let in.
		if _, made := w.sites[s.Site]; made {
			return api.Op{}, api.ErrExists
		}
		return sponsor.Join(s.Site)
	})
	if answer.Err == api.OK {
		w.sites[s.Site], _ = replica.Idle(s.Site, w.config)
	}
	return answer
}

func (w *World) leave(s api.Step) api.Answer { return w.edit(s.Site, (*replica.Replica).Leave) }

func (w *World) stop(s api.Step) api.Answer {
	return w.look(s.Site, func(*replica.Replica) (api.Answer, api.Errno) {
		w.sites[s.Site] = nil
		return api.Answer{}, api.OK
	})
}

// tick lets each site that is not stopped have its tick, and then speak to the one that it draws.
func (w *World) tick(s api.Step) api.Answer {
	draws := s.Draws
	for _, site := range w.Sites() {
		r := w.sites[site]
		if r == nil {
			continue
		}
		due, _ := r.Tick()
		w.layOut(site, due)
		here := min(1, len(draws))
		w.layOut(site, draw(r, draws[:here]))
		draws = draws[here:]
	}
	return api.Answer{}
}

func (w *World) deliver(s api.Step) api.Answer {
	c, err := w.net.Deliver(s.N)
	if err != api.OK {
		return api.Answer{Err: err}
	}
	answer := api.Answer{Copies: []api.Copy{c}}
	r := w.sites[c.To]
	if r == nil {
		w.became(api.EventDropped, c)
		return answer
	}
	w.became(api.EventDelivered, c)
	var out []replica.Out
	out, answer.Err = r.Receive(c.Data)
	w.layOut(c.To, out)
	return answer
}

func (w *World) drop(s api.Step) api.Answer {
	c, err := w.net.Drop(s.N)
	if err != api.OK {
		return api.Answer{Err: err}
	}
	w.became(api.EventDropped, c)
	return api.Answer{Copies: []api.Copy{c}}
}

func (w *World) double(s api.Step) api.Answer {
	if _, err := w.net.Double(s.N); err != api.OK {
		return api.Answer{Err: err}
	}
	// Their numbers rise, so the new one is the last one.
	all := w.net.Copies()
	c := all[len(all)-1]
	w.became(api.EventSent, c)
	return api.Answer{Copies: []api.Copy{c}}
}

func (w *World) alter(s api.Step) api.Answer { return api.Answer{Err: w.net.Alter(s.N, s.At, s.Data)} }

func (w *World) cut(s api.Step) api.Answer { return api.Answer{Err: w.net.Cut(s.N, s.At)} }

func (w *World) text(s api.Step) api.Answer {
	return w.look(s.Site, func(r *replica.Replica) (api.Answer, api.Errno) {
		return api.Answer{Text: r.Text()}, api.OK
	})
}

func (w *World) sight(s api.Step) api.Answer {
	return w.look(s.Site, func(r *replica.Replica) (api.Answer, api.Errno) {
		return api.Answer{Sight: r.Sight()}, api.OK
	})
}

func (w *World) copies(api.Step) api.Answer { return api.Answer{Copies: w.net.Copies()} }

// edit lets a site issue an operation.
func (w *World) edit(site int, issue func(*replica.Replica) (api.Op, api.Errno)) api.Answer {
	o, err := at(w, site, issue)
	if err != api.OK {
		return api.Answer{Err: err}
	}
	w.issued = append(w.issued, clone(o))
	return api.Answer{Op: o}
}

// look does something at a site that issues nothing.
func (w *World) look(site int, do func(*replica.Replica) (api.Answer, api.Errno)) api.Answer {
	answer, err := at(w, site, do)
	answer.Err = err
	return answer
}

// at does something at a site; it asks first what every step at a site does, whichever of the two it answers.
func at[A api.Op | api.Answer](w *World, site int, do func(*replica.Replica) (A, api.Errno)) (A, api.Errno) {
	var none A
	r, made := w.sites[site]
	if !made {
		return none, api.ErrNone
	}
	if r == nil {
		return none, api.ErrGone
	}
	return do(r)
}

// draw is what a site says to the member that it draws, by the first of the draws; without one that counts as 0.
func draw(r *replica.Replica, draws []int) []replica.Out {
	s := r.Sight()
	others := slices.DeleteFunc(s.Members, func(m int) bool { return m == s.Site })
	if !s.Active || len(others) == 0 {
		return nil
	}
	d := 0
	if len(draws) > 0 {
		d = draws[0]
	}
	count := len(others)
	out, _ := r.Draw(others[(d%count+count)%count]) // the remainder of a number below 0 is not above 0
	return out
}

// layOut lays what a site says on the way. What the network has no number for any more is lost, and leaves no event, as there is no copy of it.
func (w *World) layOut(from int, out []replica.Out) {
	for _, o := range out {
		if num, err := w.net.Send(from, o.To, o.Data, w.steps); err == api.OK {
			w.became(api.EventSent, api.Copy{Num: num, From: from, To: o.To, Sent: w.steps})
		}
	}
}

// became takes down what became of a copy at this step.
func (w *World) became(kind int, c api.Copy) {
	w.events = append(w.events, api.Event{Step: w.steps, Kind: kind, Copy: c.Num, From: c.From, To: c.To, Sent: c.Sent, Bad: c.Bad})
}
