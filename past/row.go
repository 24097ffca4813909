package past

import (
	"cmp"
	"iter"
	"maps"
	"slices"

	"hearsay/api"
)

// byDots is where the operation of each dot stands among some.
func byDots(ops []api.Op) map[api.Dot]int {
	places := make(map[api.Dot]int, len(ops))
	for i, o := range ops {
		places[o.Dot] = i
	}
	return places
}

// play goes through the row of a closed set, and hands each operation to what says what becomes of it; what never goes comes at the end, with false.
func play(ops []api.Op, becomes func(o api.Op, went bool)) {
	for o, went := range row(ops) {
		becomes(o, went)
	}
}

// row goes through the operations of a closed set in the order of their row, with true; then, with false, through those that never go, as they need one another, by their dots.
func row(ops []api.Op) iter.Seq2[api.Op, bool] {
	return func(yield func(api.Op, bool) bool) {
		w := walk{ops: ops, left: byDots(ops), yield: yield}
		if !w.below(api.MaxSites + 1) {
			return
		}
		for _, d := range slices.SortedFunc(maps.Keys(w.left), compare) {
			if !yield(ops[w.left[d]], false) {
				return
			}
		}
	}
}

// compare holds dots against each other: by their sites, those of one site by their numbers.
func compare(a, b api.Dot) int {
	return cmp.Or(cmp.Compare(a.Site, b.Site), cmp.Compare(a.Seq, b.Seq))
}

// walk is how far a row has gone.
type walk struct {
	ops   []api.Op
	left  map[api.Dot]int       // where those stand that have not gone
	gone  [api.MaxSites + 1]int // how many of each site have
	yield func(api.Op, bool) bool
}

// below lets operations go, as long as one of a site below some site can; false: it is told to stop.
func (w *walk) below(site int) bool {
	if site == 1 {
		return true
	}
	site--
	// What went here just now may be what one of a lesser site needs: so these come ahead of the next one, by recursion. (It goes from what is needed to what needs it: the other way, a need would go sooner because something of a lesser dot waits for it, and chains of needs are as long as a play.)
	for w.below(site) {
		next := api.Dot{Site: site, Seq: w.gone[site] + 1}
		at, there := w.left[next]
		if !there || w.waits(w.ops[at]) {
			return true
		}
		delete(w.left, next)
		w.gone[site]++
		if !w.yield(w.ops[at], true) {
			return false
		}
	}
	return false
}

// waits tells whether something that an operation needs has not gone.
func (w *walk) waits(o api.Op) bool {
	return slices.ContainsFunc(o.Deps, func(d api.Dot) bool { return d.Seq > w.gone[d.Site] })
}
