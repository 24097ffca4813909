package image

import (
	"slices"

	"hearsay/api"
	"hearsay/op"
	"hearsay/stamp"
	"hearsay/vector"
)

// checkLog tells why operations, added one by one to a log of that base, are not what leads to that vector by that time.
func checkLog(base api.Vector, log []api.Op, clock int, to api.Vector) api.Errno {
	has := base
	for _, o := range log {
		if err := op.Check(o); err != api.OK {
			return err
		}
		next, err := vector.Add(has, o.Dot)
		if err != api.OK {
			return err
		}
		if !vector.Covers(has, o.Deps) || op.Last(o) > clock {
			return api.ErrOrder
		}
		has = next
	}
	return unless(slices.Equal(has, to), api.ErrOrder)
}

// known is the identifiers that a node may stand behind.
type known map[api.ID]struct{}

func (k known) has(id api.ID) bool {
	_, ok := k[id]
	return ok
}

// checkNodes tells why the first node that offends is none behind those ahead of it, wherever it may stand among them.
func checkNodes(nodes []api.Node) api.Errno {
	ahead := known{api.ID{}: {}}
	for _, n := range nodes {
		if err := checkNode(n, ahead); err != api.OK {
			return err
		}
		ahead[n.ID] = struct{}{}
	}
	return api.OK
}

func checkNode(n api.Node, ahead known) api.Errno {
	beginning := api.ID{}
	switch {
	case !isID(n.ID) || n.Ref != beginning && !isID(n.Ref):
		return api.ErrArg
	case !isRune(n.Rune) || n.State < api.StateShown || n.State > api.StateSettled:
		return api.ErrForm
	case stamp.Compare(n.Ref, n.ID) >= 0:
		return api.ErrOrder
	case ahead.has(n.ID):
		return api.ErrExists
	case !ahead.has(n.Ref):
		return api.ErrNone
	}
	return api.OK
}

func isID(id api.ID) bool {
	return 1 <= id.Time && id.Time <= api.MaxTime && 1 <= id.Site && id.Site <= api.MaxSites
}

const lastRune = 0x10ffff

func isRune(r rune) bool {
	return 0 <= r && r < 0xd800 || 0xdfff < r && r <= lastRune
}

// inOrder tells whether nodes stand in the order of the document that they make.
func inOrder(nodes []api.Node) bool {
	// From the beginning to the node that came last, each stands behind the one ahead: only behind these the next one may stand.
	path := []api.ID{{}}
next:
	for _, n := range nodes {
		for top := len(path); top > 0; top-- {
			if path[top-1] != n.Ref {
				continue
			}
			// What is cut off first is the last one that came behind the same ref.
			if top < len(path) && stamp.Compare(path[top], n.ID) < 0 {
				return false
			}
			path = append(path[:top], n.ID)
			continue next
		}
		return false
	}
	return true
}

// noneLater tells whether no node has a later time than the clock.
func noneLater(nodes []api.Node, clock int) bool {
	return !slices.ContainsFunc(nodes, func(n api.Node) bool { return n.ID.Time > clock })
}

// checkRoll tells why no sites that join and leave lead to these.
func checkRoll(joined, left []int, epoch int) api.Errno {
	if !areSites(joined) || !areSites(left) || epoch < 0 {
		return api.ErrArg
	}
	both := 0
	for _, site := range joined {
		if slices.Contains(left, site) {
			both++
		}
	}
	// A member came once; a site of both lists came and went, or had left ahead of joining and never came.
	members := len(joined) - both
	more := epoch - members
	return unless(more >= 0 && more%2 == 0 && more/2 <= both, api.ErrForm)
}

// areSites tells whether these are sites, and rise.
func areSites(l []int) bool {
	ahead := 0
	for _, site := range l {
		if site <= ahead || site > api.MaxSites {
			return false
		}
		ahead = site
	}
	return true
}
