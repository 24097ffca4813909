package front_test

import (
	"runtime"
	"slices"
	"testing"

	"hearsay/api"
	"hearsay/front"
)

// TestAnswersApart: P14.9, W6: no two answers share anything, and none shares anything with what the front keeps: rows that are usable as they are too.
func TestAnswersApart(t *testing.T) {
	b := rich(t)
	own := vec(1, 4, 2, 2, 3, 1, 16, 12)
	ask := func() []api.Vector {
		row, _ := b.front.Row(2)
		ahead, _ := b.front.Row(3)
		return []api.Vector{
			row, b.front.Usable(2), ahead, b.front.Usable(3),
			b.front.Frontier(nil, 1, own), b.front.Frontier([]int{1}, 1, own), b.front.Frontier([]int{2, 1}, 1, own), b.front.Frontier([]int{2}, 1, vec(1, 9, 2, 9)),
		}
	}
	want := []api.Vector{vec(1, 3, 2, 4), vec(1, 3, 2, 4), vec(1, 5, 2, 9, 3, 3), vec(1, 5, 3, 2), own, own, vec(1, 3, 2, 2), vec(1, 3, 2, 4)}
	want = append(want, want...)
	all := append(ask(), ask()...)
	for i := range all {
		for k := i; k < len(all); k++ {
			wantVector(t, []int{i, k}, all[k], want[k])
		}
		spoil(all[i], junkDot)
		b.wantFront(t)
	}
	wantVector(t, "own", own, vec(1, 4, 2, 2, 3, 1, 16, 12))

	// What was answered earlier does not go on with the front.
	earlier := ask()
	b.must(t, 2, 1, 8, 2, 8, 3, 8)
	b.must(t, 3, 1, 9)
	b.settle(t, each(func(int) int { return 10 }))
	for i, v := range earlier {
		wantVector(t, "an earlier answer", v, want[i])
	}
	b.wantRow(t, 2, vec(1, 8, 2, 8, 3, 8), vec(1, 8, 2, 8, 3, 8))
}

// TestGivenApart: P14.9, W6: what was handed in has nothing to do with what is kept or answered: one list for two sites and two fronts, as own, for the first time, again, and with nothing new.
func TestGivenApart(t *testing.T) {
	v := vec(1, 5, 3, 2)
	one, two := front.New(), front.New()
	for _, f := range []*front.Front{one, two} {
		for _, site := range []int{2, 9, 2} {
			wantErr(t, site, f.Hear(site, v), api.OK)
		}
		f.Settle(v)
	}
	alone, shared := one.Frontier(nil, 1, v), one.Frontier([]int{2, 9}, 1, v)
	less := v[:1]
	wantErr(t, less, one.Hear(9, less), api.OK)
	spoil(v, junkDot)
	for _, f := range []*front.Front{one, two} {
		for _, site := range []int{2, 9} {
			row, ok := f.Row(site)
			if !ok {
				t.Errorf("%d was not heard of", site)
			}
			wantVector(t, site, row, vec(1, 5, 3, 2))
			wantVector(t, site, f.Usable(site), vec(1, 5, 3, 2))
		}
	}
	wantVector(t, "the frontier of own alone", alone, vec(1, 5, 3, 2))
	wantVector(t, "the frontier", shared, vec(1, 5, 3, 2))
	spoil(alone, junkDot)
	wantVector(t, "the frontier", shared, vec(1, 5, 3, 2))

	members := []int{9, 2, 2, 1, 0}
	one.Frontier(members, 1, vec(1, 5))
	if !slices.Equal(members, []int{9, 2, 2, 1, 0}) {
		t.Errorf("Frontier has made %v of the members", members)
	}
}

// inUse is how many bytes are held on to.
func inUse() int {
	var m runtime.MemStats
	runtime.GC()
	runtime.ReadMemStats(&m)
	return int(m.HeapAlloc)
}

// TestNotKept: P14.9, W6: neither a front nor an answer holds on to what was handed in, not even where a list was empty, or was refused; and a front does not grow by being told much.
func TestNotKept(t *testing.T) {
	big := func(numbers ...int) api.Vector { return append(make(api.Vector, 0, 1<<16), vec(numbers...)...) }
	f := front.New()
	var answers []api.Vector
	before := inUse()
	for i := range 20 {
		f.Hear(2, big())
		f.Hear(3, big(1, i+1))
		f.Hear(4, big(1, 0))
		f.Hear(0, big(1, 1))
		f.Settle(big(1, i+1))
		f.Settle(big())
		answers = append(answers, f.Frontier(make([]int, 0, 1<<16), 1, big()), f.Frontier(nil, 1, big(1, 7)), f.Frontier([]int{3}, 1, big(1, 7)), f.Frontier(nil, 1, big(1, 0)))
	}
	if n := inUse() - before; n > 1<<19 {
		t.Errorf("%d bytes are kept", n)
	}
	for i := range 100000 {
		f.Hear(1+i%api.MaxSites, each(func(site int) int { return 1 + i/site }))
		f.Settle(each(func(int) int { return i }))
	}
	if n := inUse() - before; n > 1<<19 {
		t.Errorf("%d bytes are kept", n)
	}
	runtime.KeepAlive(f)
	runtime.KeepAlive(answers)
}
