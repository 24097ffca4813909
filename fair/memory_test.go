package fair_test

import (
	"math/rand"
	"slices"
	"testing"

	"hearsay/api"
	"hearsay/fair"
)

// roomy is a list with room behind its end, in which something stands that would count.
func roomy[T any](list []T, behind ...T) []T {
	return append(append(make([]T, 0, len(list)+len(behind)), list...), behind...)[:len(list)]
}

// whole is a list with the room behind its end.
func whole[T any](list []T) []T { return list[:cap(list)] }

// spoil sets all of a list, its room too, to something else.
func spoil[T any](list []T, to T) {
	for i := range whole(list) {
		whole(list)[i] = to
	}
}

// TestGivenStays: P23.6, W6: what is handed in stays as it was, in its order, the room behind its end too; what stands there counts for nothing.
func TestGivenStays(t *testing.T) {
	m := maker{rand.New(rand.NewSource(2306))}
	for range rounds(800) {
		p := m.some()
		events := roomy(p.events, all(p.live, 0, 0)...)
		live := roomy(p.live, 5, 6)
		seenEvents, seenLive := slices.Clone(whole(events)), slices.Clone(whole(live))
		got := fair.Windows(events, live, p.from, p.to)
		if want := wantWindows(p.events, p.live, p.from, p.to); !slices.Equal(got, want) {
			t.Fatalf("%+v: %v; want %v", p, got, want)
		}
		spoil(got, stretch(-7, -7))
		if !slices.Equal(whole(events), seenEvents) || !slices.Equal(whole(live), seenLive) {
			t.Fatalf("%+v: events %v; they were %v; live %v; it was %v", p, whole(events), seenEvents, whole(live), seenLive)
		}
	}
}

// TestApart: P23.6, W6, W2: no answer shares anything with what was handed in, nor with another answer, the room behind its end too, nor does anything last from call to call.
func TestApart(t *testing.T) {
	m := maker{rand.New(rand.NewSource(2307))}
	answers := 0
	for range rounds(400) {
		p := m.some()
		want := wantWindows(p.events, p.live, p.from, p.to)
		events, live := slices.Clone(p.events), slices.Clone(p.live)
		var lists [][]api.Window
		for range 3 {
			lists = append(lists, fair.Windows(events, live, p.from, p.to))
			q := m.some()
			fair.Windows(q.events, q.live, q.from, q.to)
		}
		spoil(events, api.Event{Kind: api.EventDelivered, From: 1, To: 2})
		spoil(live, 9)
		for i := range lists {
			for _, l := range lists[i:] {
				if !slices.Equal(l, want) {
					t.Fatalf("%+v: an earlier answer is now %v; it was %v", p, l, want)
				}
			}
			answers += len(lists[i])
			spoil(lists[i], stretch(-7, -7))
		}
		if again := fair.Windows(p.events, p.live, p.from, p.to); !slices.Equal(again, want) {
			t.Fatalf("%+v: %v; it was %v", p, again, want)
		}
	}
	if answers < rounds(1500) {
		t.Errorf("%d windows alone", answers)
	}
}
