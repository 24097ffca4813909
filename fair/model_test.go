package fair_test

import (
	"math"
	"slices"

	"hearsay/api"
)

// isFair tells whether a stretch is fair, as P23.1 says it.
func isFair(events []api.Event, live []int, s, t int) bool {
	if t <= s {
		return false
	}
	for _, a := range live {
		for _, b := range live {
			if a != b && !slices.ContainsFunc(events, func(e api.Event) bool {
				return e.Kind == api.EventDelivered && !e.Bad && e.From == a && e.To == b && e.Step >= s && e.Sent >= s && e.Step < t && e.Sent < t
			}) {
				return false
			}
		}
	}
	return true
}

// wantWindows is the windows of a play, each end tried out. Of all steps between two ends one behind a step that an event names is tried alone: nothing else makes a stretch fair.
func wantWindows(events []api.Event, live []int, from, to int) []api.Window {
	var ends []int
	for _, e := range events {
		for _, step := range []int{e.Step, e.Sent} {
			if step < math.MaxInt {
				ends = append(ends, step+1)
			}
		}
	}
	slices.Sort(ends)
	return tried(events, live, from, to, slices.Compact(ends))
}

// wantShort is the same for few steps: the ends are counted through.
func wantShort(events []api.Event, live []int, from, to int) []api.Window {
	var ends []int
	for t := max(from, 0); t <= to; t++ {
		ends = append(ends, t)
	}
	return tried(events, live, from, to, ends)
}

// tried is the windows that end at some of the steps that are told, which rise.
func tried(events []api.Event, live []int, from, to int, ends []int) []api.Window {
	if !slices.ContainsFunc(live, func(site int) bool { return site != live[0] }) {
		return nil
	}
	var list []api.Window
	from = max(from, 0)
	for _, t := range ends {
		if t <= to && isFair(events, live, from, t) {
			list = append(list, api.Window{From: from, To: t})
			from = t
		}
	}
	return list
}

// most is how many fair stretches the best of all divisions of some steps has, each begun where the one ahead of it ends.
func most(events []api.Event, live []int, from, to int) int {
	best := 0
	for t := from + 1; t <= to; t++ {
		if isFair(events, live, from, t) {
			best = max(best, 1+most(events, live, t, to))
		}
	}
	return best
}
