package fair

import (
	"iter"

	"hearsay/api"
)

// Each is the windows of a play as they are yielded.
func Each(events []api.Event, live []int, from, to int) iter.Seq[api.Window] {
	sites := distinct(live)
	return windows(arrivals(events, sites, from, to), pairCount(len(sites)), from)
}
