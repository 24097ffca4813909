package tree

import (
	"cmp"
	"math"
	"slices"
	"sort"

	"hearsay/api"
)

// stretch is times of one site that runs name.
type stretch struct {
	site, from, to int
}

// stretches is what runs name, by sites, rising by from. Each reaches as far as all of its site up to it do, so that one alone has to be looked at.
func stretches(runs []api.Run) []stretch {
	var l []stretch
	for _, r := range runs {
		if r.Count > 0 {
			l = append(l, stretch{r.ID.Site, r.ID.Time, lastTime(r)})
		}
	}
	slices.SortFunc(l, func(a, b stretch) int {
		return cmp.Or(cmp.Compare(a.site, b.site), cmp.Compare(a.from, b.from))
	})
	for i := 1; i < len(l); i++ {
		if l[i].site == l[i-1].site {
			l[i].to = max(l[i].to, l[i-1].to)
		}
	}
	return l
}

// lastTime is the last time that a run names; the greatest int, if it goes beyond.
func lastTime(r api.Run) int {
	if r.ID.Time > 0 && r.Count > math.MaxInt-r.ID.Time {
		return math.MaxInt
	}
	return r.ID.Time + (r.Count - 1)
}

// named tells whether an identifier is named: if at all, by the last stretch of its site that begins at its time or ahead of it.
func named(l []stretch, id api.ID) bool {
	behind := sort.Search(len(l), func(i int) bool {
		return l[i].site > id.Site || l[i].site == id.Site && l[i].from > id.Time
	})
	if behind == 0 {
		return false
	}
	s := l[behind-1]
	return s.site == id.Site && id.Time <= s.to
}
