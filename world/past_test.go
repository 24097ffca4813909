package world_test

import (
	"slices"

	"hearsay/api"
)

// What operations alone say, worked out without frames, rows and logs.

// vec is how many operations of each site.
type vec [api.MaxSites + 1]int

func vecOf(v api.Vector) vec {
	var has vec
	for _, d := range v {
		has[d.Site] = d.Seq
	}
	return has
}

func (v vec) has(d api.Dot) bool { return d.Seq <= v[d.Site] }

func (v vec) covers(w vec) bool {
	for site := range v {
		if v[site] < w[site] {
			return false
		}
	}
	return true
}

func (v vec) sum() int {
	n := 0
	for _, seq := range v {
		n += seq
	}
	return n
}

// upto is the operations that a vector has.
func upto(ops []api.Op, v vec) []api.Op {
	var l []api.Op
	for _, o := range ops {
		if v.has(o.Dot) {
			l = append(l, o)
		}
	}
	return l
}

// states is which elements some operations delete, and which of these are settled by a base.
func states(ops []api.Op, base vec) map[api.ID]int {
	l := map[api.ID]int{}
	for _, o := range ops {
		for _, run := range o.Gone {
			for k := range run.Count {
				id := api.ID{Time: run.ID.Time + k, Site: run.ID.Site}
				if base.has(o.Dot) {
					l[id] = api.StateSettled
				} else {
					l[id] = max(l[id], api.StateDeleted)
				}
			}
		}
	}
	return l
}

// below tells whether an identifier is lower than another one.
func below(a, b api.ID) bool { return a.Time < b.Time || a.Time == b.Time && a.Site < b.Site }

// nodes is the elements that a site keeps which has some operations, and has cut off what a base has.
func nodes(ops []api.Op, base vec) []api.Node {
	state := states(ops, base)
	behind := map[api.ID][]api.Node{}
	for _, o := range ops {
		id, ref := o.ID, o.Ref
		for _, r := range o.Text {
			behind[ref] = append(behind[ref], api.Node{ID: id, Ref: ref, Rune: r, State: max(api.StateShown, state[id])})
			ref = id
			id.Time++
		}
	}
	var walk func(ref api.ID) []api.Node
	walk = func(ref api.ID) []api.Node {
		slices.SortFunc(behind[ref], func(a, b api.Node) int {
			if below(a.ID, b.ID) {
				return 1
			}
			return -1
		})
		var all []api.Node
		for _, n := range behind[ref] {
			if rest := walk(n.ID); len(rest) > 0 || n.State != api.StateSettled {
				all = append(append(all, n), rest...)
			}
		}
		return all
	}
	return walk(api.ID{})
}

// shown is the text of elements, and their identifiers.
func shown(l []api.Node) (string, []api.ID) {
	text := ""
	var ids []api.ID
	for _, n := range l {
		if n.State == api.StateShown {
			text += string(n.Rune)
			ids = append(ids, n.ID)
		}
	}
	return text, ids
}

// members is who is one by some operations.
func members(ops []api.Op) []int {
	var l []int
	for site := 1; site <= api.MaxSites; site++ {
		joined := slices.ContainsFunc(ops, func(o api.Op) bool { return o.Kind == api.OpJoin && o.Site == site })
		left := slices.ContainsFunc(ops, func(o api.Op) bool { return o.Kind == api.OpLeave && o.Dot.Site == site })
		if joined && !left {
			l = append(l, site)
		}
	}
	return l
}

// windows is how many fair stretches there are from a step on, one behind the other: in each of them something clean that was sent in it arrives from each site at each other one.
func windows(events []api.Event, live []int, from int) int {
	count := 0
	arrived := map[[2]int]int{}
	for _, e := range events {
		if e.Kind != api.EventDelivered || e.Bad || e.Sent < from || !slices.Contains(live, e.From) || !slices.Contains(live, e.To) {
			continue
		}
		arrived[[2]int{e.From, e.To}]++
		if len(arrived) == len(live)*(len(live)-1) {
			count++
			from = e.Step + 1
			clear(arrived)
		}
	}
	return count
}
