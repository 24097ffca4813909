package replica

import (
	"iter"
	"maps"
	"slices"

	"hearsay/alarm"
	"hearsay/api"
	"hearsay/causal"
	"hearsay/frame"
	"hearsay/front"
	"hearsay/oplog"
	"hearsay/peer"
	"hearsay/roll"
	"hearsay/tree"
	"hearsay/vector"
)

// whole is all of a site. An idle one has no parts as yet: their pointers are nil, and answer as if there were nothing.
type whole struct {
	site            int
	config          api.Config
	active, leaving bool
	clock, tick     int

	*tree.Tree
	*oplog.Log
	*causal.Queue
	*front.Front
	*alarm.Alarm
	*roll.Roll
	talks map[int]*peer.Peer

	waiting []api.Op // what waits in the queue, in its order: the queue itself gives it only to deliver it
}

// wake lets an idle one have what an image says. It is made on a copy, so that an image that cannot be taken in changes nothing.
func (w *whole) wake(m api.Image) api.Errno {
	next := *w
	next.active, next.clock = true, m.Clock
	next.Front, next.talks = front.New(), map[int]*peer.Peer{}
	if err := first(
		func() (err api.Errno) { next.Tree, err = tree.Load(m.Nodes); return },
		func() (err api.Errno) { next.Log, err = loadLog(m.Base, m.Log); return },
		func() (err api.Errno) { next.Queue, err = causal.New(w.config.Hold, m.Vector); return },
		func() (err api.Errno) { next.Alarm, err = alarm.New(w.config.Min, w.config.Max); return },
		func() (err api.Errno) { next.Roll, err = roll.Load(m.Joined, m.Left, m.Epoch); return },
	); err != api.OK {
		return err
	}
	*w = next
	return api.OK
}

// loadLog is a log with these operations above a base.
func loadLog(base api.Vector, ops []api.Op) (*oplog.Log, api.Errno) {
	l, err := oplog.New(base)
	for i := 0; err == api.OK && i < len(ops); i++ {
		err = l.Add(ops[i])
	}
	return l, err
}

// edit issues an operation, and tidies up.
func (w *whole) edit(o api.Op) api.Op {
	o = w.issue(o)
	w.tidy()
	return o
}

// issue numbers an operation of this site, and delivers it.
func (w *whole) issue(o api.Op) api.Op {
	o.Deps = w.Queue.Vector()
	o.Dot = api.Dot{Site: w.site, Seq: vector.Get(o.Deps, w.site) + 1}
	if became, _ := w.Offer(o); became == causal.Had {
		w.oust(o.Dot)
		w.Offer(o)
	}
	w.deliverAll()
	return o
}

// oust makes the queue anew, without the one of a dot that waits there. A hand-made frame may have brought an operation with the number that this site gives next; the site's own one goes ahead of it.
func (w *whole) oust(d api.Dot) {
	w.waiting = slices.DeleteFunc(w.waiting, func(o api.Op) bool { return o.Dot == d })
	w.Queue, _ = causal.New(w.config.Hold, w.Queue.Vector())
	for _, o := range w.waiting {
		w.Offer(o)
	}
}

// accept offers an operation that a frame brought to the queue.
func (w *whole) accept(o api.Op) {
	if became, _ := w.Offer(o); became == causal.Held {
		w.waiting = append(w.waiting, o)
	}
	w.deliverAll()
}

// deliverAll delivers whatever the queue gives.
func (w *whole) deliverAll() {
	for o, ok := w.Take(); ok; o, ok = w.Take() {
		w.deliver(o)
	}
	if len(w.waiting) > 0 {
		dots := w.Waits()
		w.waiting = slices.DeleteFunc(w.waiting, func(o api.Op) bool { return !slices.Contains(dots, o.Dot) })
	}
}

// tidy lets rows count that are covered by now, and forgets what all members have, if there is too much.
func (w *whole) tidy() {
	own := w.Queue.Vector()
	w.Front.Settle(own)
	if w.Log.Len() <= w.config.Keep {
		return
	}
	cut, _ := w.Cut(w.Frontier(w.Members(), w.site, own))
	var gone []api.Run
	for _, o := range cut {
		gone = append(gone, o.Gone...) // deletes alone have such
	}
	// All at once, as the document is gone through each time.
	w.Tree.Settle(gone)
	w.Collect()
}

// hear takes in a frame; it answers what goes out.
func (w *whole) hear(f api.Frame) []Out {
	w.note(f)
	for _, o := range slices.Concat(f.Ops, f.Image.Log) {
		if !w.leaving {
			w.accept(o)
		}
	}
	if w.isContent(f.From) {
		w.hush(f.From)
	}
	w.tidy()
	if f.Answer || !w.Has(f.From) || w.isContent(f.From) && f.Num == 0 {
		return nil
	}
	return []Out{w.speak(f.From, true)}
}

// note takes in what a frame says of its sender and of the talk with it.
func (w *whole) note(f api.Frame) {
	w.Hear(f.From, f.Have)
	talk := w.talk(f.From)
	if !talk.Heard(f.Num, f.Got, f.Credit) {
		return
	}
	if len(talk.Flight()) == 0 {
		w.Off(f.From)
	} else {
		w.Reset(f.From, w.tick)
	}
}

// talk is the talk with a peer, which begins when it is first asked for.
func (w *whole) talk(with int) *peer.Peer {
	if w.talks[with] == nil {
		w.talks[with], _ = peer.New(w.config.Window, w.config.Push)
	}
	return w.talks[with]
}

// hush lets no frame to a peer wait for an acknowledgement any more.
func (w *whole) hush(with int) {
	w.talk(with).Clear()
	w.Off(with)
}

// isContent tells whether a peer was heard of, and lacks nothing by its row.
func (w *whole) isContent(p int) bool {
	row, heard := w.Row(p)
	return heard && len(head(w.Beyond(row), 1)) == 0
}

// speak is a frame for a peer.
func (w *whole) speak(to int, answer bool) Out {
	talk := w.talk(to)
	f := api.Frame{From: w.site, To: to, Got: talk.Got(), Credit: w.Free(), Answer: answer, Have: w.Queue.Vector()}
	if row, heard := w.Row(to); heard {
		f.Kind = api.FrameOps
		var count int
		f.Num, count = talk.Send(w.Lacks(row))
		f.Ops = head(w.Beyond(row), count)
	} else {
		f.Kind = api.FrameImage
		f.Num, _ = talk.Send(1)
		f.Image = w.image()
	}
	if f.Num > 0 {
		w.Set(to, w.tick) // refused where it runs already, as it should be
	}
	data, _ := frame.Encode(f)
	return Out{To: to, Data: data}
}

// head is the first n of some operations.
func head(ops iter.Seq[api.Op], n int) []api.Op {
	var list []api.Op
	for o := range ops {
		if len(list) == n {
			break
		}
		list = append(list, o)
	}
	return list
}

// image is all that an active one has, as plain data.
func (w *whole) image() api.Image {
	return api.Image{
		Vector: w.Queue.Vector(),
		Base:   w.Base(),
		Clock:  w.clock,
		Log:    slices.Collect(w.Beyond(nil)),
		Nodes:  w.Nodes(),
		Joined: w.Joined(),
		Left:   w.Left(),
		Epoch:  w.Epoch(),
	}
}

// sight is what it tells of itself.
func (w *whole) sight() api.Sight {
	s := api.Sight{
		Site:    w.site,
		Active:  w.active,
		Leaving: w.leaving,
		Vector:  w.Queue.Vector(),
		Base:    w.Base(),
		Clock:   w.clock,
		Tick:    w.tick,
		Held:    w.Waits(),
		Log:     w.Log.Len(),
		Kept:    w.Kept(),
		Members: w.Members(),
		Epoch:   w.Epoch(),
	}
	// Whoever was heard of has a talk too, so these are all.
	for _, p := range slices.Sorted(maps.Keys(w.talks)) {
		s.Peers = append(s.Peers, w.peerSight(p))
	}
	return s
}

// peerSight is what it tells of its talk with a peer.
func (w *whole) peerSight(p int) api.PeerSight {
	talk := w.talk(p)
	row, heard := w.Row(p)
	gap, due := w.Gap(p)
	return api.PeerSight{
		Peer:   p,
		Heard:  heard,
		Row:    row,
		Usable: w.Usable(p),
		Flight: talk.Flight(),
		Got:    talk.Got(),
		Credit: talk.Credit(),
		Gap:    gap,
		Due:    due,
	}
}
