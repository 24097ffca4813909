package fair_test

import (
	"math"
	"slices"
	"testing"

	"hearsay/api"
	"hearsay/fair"
)

// edges is numbers about the ends of what numbers can be, and such whose low bits are those of others.
var edges = []int{
	math.MinInt, math.MinInt + 1, -1<<32 + 1, -1 << 31, -2, -1, 0, 1, 2, 3, 15, 16, 17, 63, 64, 65, 1<<31 - 1, 1 << 31, 1 << 32, 1<<32 + 1, 1<<32 + 2,
	math.MaxInt - 1, math.MaxInt,
}

// came is the event of a clean copy that arrived.
func came(from, to, sent, step int) api.Event {
	return api.Event{Step: step, Kind: api.EventDelivered, Copy: 1, From: from, To: to, Sent: sent}
}

// all is events by which something sent at a step arrives of each site at each other one, at one step.
func all(live []int, sent, step int) []api.Event {
	var list []api.Event
	for _, a := range live {
		for _, b := range live {
			if a != b {
				list = append(list, came(a, b, sent, step))
			}
		}
	}
	return list
}

// stretch is a window.
func stretch(from, to int) api.Window { return api.Window{From: from, To: to} }

// two is the sites of most plays here.
func two() []int { return []int{1, 2} }

// both is the windows of a play, worked out both ways, and once more.
func both(t *testing.T, events []api.Event, live []int, from, to int) []api.Window {
	t.Helper()
	got := fair.Windows(events, live, from, to)
	if want := wantWindows(events, live, from, to); !slices.Equal(got, want) {
		t.Fatalf("Windows(%+v, %v, %d, %d): %v; want %v", events, live, from, to, got, want)
	}
	if again := fair.Windows(events, live, from, to); !slices.Equal(again, got) {
		t.Fatalf("Windows(%+v, %v, %d, %d): %v; another time %v", events, live, from, to, got, again)
	}
	return got
}

// wantAre holds the windows of a play against what they must be.
func wantAre(t *testing.T, events []api.Event, live []int, from, to int, want ...api.Window) {
	t.Helper()
	if got := both(t, events, live, from, to); !slices.Equal(got, want) {
		t.Errorf("Windows(%+v, %v, %d, %d): %v; want %v", events, live, from, to, got, want)
	}
}
