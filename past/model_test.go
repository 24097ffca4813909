package past_test

import (
	"slices"

	"hearsay/api"
	"hearsay/op"
)

// What a set of operations says, worked out a second time: as the chapter's words say it, step by step, over lists.

// says is how many operations of a site a vector says.
func says(v api.Vector, site int) int {
	for _, d := range v {
		if d.Site == site {
			return d.Seq
		}
	}
	return 0
}

// isVector tells whether a list of dots is a vector; else the error of the first one that offends.
func isVector(v api.Vector) api.Errno {
	for i, d := range v {
		switch {
		case d.Site < 1 || d.Site > api.MaxSites:
			return api.ErrArg
		case d.Seq < 1 || d.Seq > api.MaxSeq:
			return api.ErrForm
		case i > 0 && d.Site <= v[i-1].Site:
			return api.ErrOrder
		}
	}
	return api.OK
}

// has tells whether a vector has an operation.
func has(v api.Vector, d api.Dot) bool { return 1 <= d.Seq && d.Seq <= says(v, d.Site) }

// dots is a set of operations, by their numbers.
type dots map[api.Dot]bool

func dotsOf(ops []api.Op) dots {
	all := dots{}
	for _, o := range ops {
		all[o.Dot] = true
	}
	return all
}

// hasAll tells whether all that a vector says are there.
func (s dots) hasAll(v api.Vector) bool {
	for _, d := range v {
		for seq := range d.Seq {
			if !s[dot(d.Site, seq+1)] {
				return false
			}
		}
	}
	return true
}

// wantClosed is why operations are no closed set.
func wantClosed(ops []api.Op) api.Errno {
	for _, o := range ops {
		if op.Check(o) != api.OK {
			return api.ErrOp
		}
	}
	for i, o := range ops {
		for _, other := range ops[:i] {
			if other.Dot == o.Dot {
				return api.ErrExists
			}
		}
	}
	all := dotsOf(ops)
	for _, o := range ops {
		if !all.hasAll(o.Deps) {
			return api.ErrClosed
		}
	}
	return api.OK
}

// wantUpto is those operations that a vector has.
func wantUpto(ops []api.Op, v api.Vector) []api.Op {
	var l []api.Op
	for _, o := range ops {
		if isVector(v) == api.OK && has(v, o.Dot) {
			l = append(l, o)
		}
	}
	return l
}

// less tells whether a dot is the lesser one.
func less(a, b api.Dot) bool { return a.Site < b.Site || a.Site == b.Site && a.Seq < b.Seq }

// wantRow is the row of a closed set: again and again the one with the least dot of those that can go.
func wantRow(ops []api.Op) []api.Op {
	var row []api.Op
	gone := dots{}
	for {
		var next *api.Op
		for i, o := range ops {
			if !gone[o.Dot] && (next == nil || less(o.Dot, next.Dot)) && gone.hasAll(o.Deps) {
				next = &ops[i]
			}
		}
		if next == nil {
			return row
		}
		row = append(row, *next)
		gone[next.Dot] = true
	}
}

// names tells whether some runs name an identifier.
func names(runs []api.Run, id api.ID) bool {
	return slices.ContainsFunc(runs, func(r api.Run) bool {
		return r.ID.Site == id.Site && r.ID.Time <= id.Time && id.Time < r.ID.Time+r.Count
	})
}

// elements is a document: its elements in the order in which they were laid, and how often something that was to be done was without effect.
type elements struct {
	list []api.Node
	idle map[string]int
}

func (e *elements) has(id api.ID) bool {
	return slices.ContainsFunc(e.list, func(n api.Node) bool { return n.ID == id })
}

// insert lays the elements of a text; or none.
func (e *elements) insert(o api.Op) {
	nothing := api.ID{}
	if o.Ref != nothing && !e.has(o.Ref) {
		e.idle["its place not there"]++
		return
	}
	last := api.Node{ID: o.Ref}
	var news []api.Node
	for i, r := range []rune(o.Text) {
		last = api.Node{ID: id(o.ID.Time+i, o.ID.Site), Ref: last.ID, Rune: r, State: api.StateShown}
		news = append(news, last)
		if e.has(last.ID) {
			e.idle["there already"]++
			return
		}
	}
	e.list = append(e.list, news...)
}

// remove deletes those that are there.
func (e *elements) remove(runs []api.Run) {
	done := 0
	for i, n := range e.list {
		if !names(runs, n.ID) {
			continue
		}
		done++
		if n.State != api.StateShown {
			e.idle["deleted already"]++
		}
		e.list[i].State = api.StateDeleted
	}
	if done == 0 {
		e.idle["nothing to delete"]++
	}
}

// done is the document of a closed set.
func done(ops []api.Op) *elements {
	e := &elements{idle: map[string]int{}}
	for _, o := range wantRow(ops) {
		if o.Kind == api.OpInsert {
			e.insert(o)
		}
		if o.Kind == api.OpDelete {
			e.remove(o.Gone)
		}
	}
	return e
}

// lower tells whether an identifier is the lower one.
func lower(a, b api.ID) bool { return a.Time < b.Time || a.Time == b.Time && a.Site < b.Site }

// behind is what stands behind an element, in its order: the higher ones first, each with all that stands behind it.
func behind(list []api.Node, ref api.ID) []api.Node {
	var next, all []api.Node
	for _, n := range list {
		if n.Ref == ref {
			next = append(next, n)
		}
	}
	slices.SortFunc(next, func(a, b api.Node) int {
		if lower(a.ID, b.ID) {
			return 1
		}
		return -1
	})
	for _, n := range next {
		all = append(append(all, n), behind(list, n.ID)...)
	}
	return all
}

// wantWhole is the elements of the whole document, in their order.
func wantWhole(ops []api.Op) []api.Node { return behind(done(ops).list, api.ID{}) }

// textOf is the runes of the shown ones.
func textOf(list []api.Node) string {
	s := ""
	for _, n := range list {
		if n.State == api.StateShown {
			s += string(n.Rune)
		}
	}
	return s
}

// idsOf is the identifiers of elements.
func idsOf(list []api.Node) []api.ID {
	var ids []api.ID
	for _, n := range list {
		ids = append(ids, n.ID)
	}
	return ids
}

// wantMembers is who is one by a closed set.
func wantMembers(ops []api.Op) []int {
	var l []int
	for site := 1; site <= api.MaxSites; site++ {
		joined := slices.ContainsFunc(ops, func(o api.Op) bool { return o.Kind == api.OpJoin && o.Site == site })
		left := slices.ContainsFunc(ops, func(o api.Op) bool { return o.Kind == api.OpLeave && o.Dot.Site == site })
		if joined && !left {
			l = append(l, site)
		}
	}
	return l
}

// wantBase is why a closed set has no such base.
func wantBase(ops []api.Op, base api.Vector) api.Errno {
	if err := isVector(base); err != api.OK {
		return err
	}
	if !dotsOf(ops).hasAll(base) || wantClosed(wantUpto(ops, base)) != api.OK {
		return api.ErrClosed
	}
	return api.OK
}

// wantNodes is which of the elements of the whole document a base leaves, and in what state: the settled ones behind which none stands are taken out one by one.
func wantNodes(whole []api.Node, ops []api.Op, base api.Vector) []api.Node {
	list := slices.Clone(whole)
	for i, n := range list {
		settles := func(o api.Op) bool { return o.Kind == api.OpDelete && has(base, o.Dot) && names(o.Gone, n.ID) }
		if n.State == api.StateDeleted && slices.ContainsFunc(ops, settles) {
			list[i].State = api.StateSettled
		}
	}
	for {
		at := slices.IndexFunc(list, func(n api.Node) bool {
			return n.State == api.StateSettled && !slices.ContainsFunc(list, func(o api.Node) bool { return o.Ref == n.ID })
		})
		if at < 0 {
			return list
		}
		list = slices.Delete(list, at, at+1)
	}
}
