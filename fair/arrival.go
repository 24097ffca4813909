package fair

import (
	"cmp"
	"slices"

	"hearsay/api"
)

// arrival is a clean copy that came from one site at another one.
type arrival struct {
	first, last int // a window that it counts in has both of these steps; an event may be told as sent behind its delivery
	pair        int
}

// arrivals is those of some events that may count in a window between two steps, in the order of their ends.
func arrivals(events []api.Event, sites []int, from, to int) []arrival {
	var list []arrival
	for _, e := range events {
		if e.Kind != api.EventDelivered || e.Bad {
			continue
		}
		pair, ok := pairOf(sites, e.From, e.To)
		first, last := min(e.Sent, e.Step), max(e.Sent, e.Step)
		if ok && first >= from && last < to {
			list = append(list, arrival{first, last, pair})
		}
	}
	slices.SortFunc(list, func(a, b arrival) int { return cmp.Compare(a.last, b.last) })
	return list
}

// distinct is some sites rising, each once.
func distinct(live []int) []int { return slices.Compact(slices.Sorted(slices.Values(live))) }
