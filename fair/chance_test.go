package fair_test

import (
	"math/rand"
	"slices"
	"testing"

	"hearsay/api"
	"hearsay/fair"
)

// maker makes plays.
type maker struct{ chance *rand.Rand }

// play is a play of few steps.
type play struct {
	events   []api.Event
	live     []int
	from, to int
}

// event is one at about some steps, mostly one that may count.
func (m maker) event(live []int, steps int) api.Event {
	e := api.Event{Kind: api.EventDelivered, Copy: m.chance.Intn(9), Sent: m.chance.Intn(steps), Bad: m.chance.Intn(12) == 0}
	e.From, e.To = live[m.chance.Intn(len(live))], live[m.chance.Intn(len(live))]
	switch m.chance.Intn(16) {
	case 0:
		e.Kind = m.chance.Intn(5)
	case 1:
		e.From = m.chance.Intn(5)
	case 2:
		e.To = m.chance.Intn(5)
	case 3:
		e.Sent -= 4
	}
	e.Step = e.Sent + m.chance.Intn(3)
	if m.chance.Intn(10) == 0 {
		e.Step = m.chance.Intn(steps)
	}
	return e
}

// play is one of some sites.
func (m maker) play(sites, steps, events int) play {
	p := play{from: m.chance.Intn(4) - 1, to: steps - m.chance.Intn(3)}
	for _, i := range m.chance.Perm(sites) {
		p.live = append(p.live, i+1)
	}
	for range events {
		p.events = append(p.events, m.event(p.live, steps))
	}
	if m.chance.Intn(4) == 0 {
		p.live = append(p.live, p.live[m.chance.Intn(len(p.live))])
	}
	return p
}

// some is a play of two to four sites, with events enough for a few windows.
func (m maker) some() play {
	sites := 2 + m.chance.Intn(3)
	return m.play(sites, 8+m.chance.Intn(40), m.chance.Intn(60*(sites-1)*(sites-1)))
}

// shuffled is a list in another order.
func shuffled[T any](m maker, list []T) []T {
	list = slices.Clone(list)
	m.chance.Shuffle(len(list), func(i, k int) { list[i], list[k] = list[k], list[i] })
	return list
}

// rounds is how many plays there are.
func rounds(n int) int {
	if testing.Short() {
		return n / 8
	}
	return n
}

// TestPlays: P23.2, P23.4: of many plays both ways answer the same, and a third one that counts all steps through; the windows follow one another without gaps, none reaches beyond to, each is fair, and none could end earlier.
func TestPlays(t *testing.T) {
	m := maker{rand.New(rand.NewSource(2302))}
	saw := map[int]int{}
	for range rounds(4000) {
		p := m.some()
		got := both(t, p.events, p.live, p.from, p.to)
		if want := wantShort(p.events, p.live, p.from, p.to); !slices.Equal(got, want) {
			t.Fatalf("%+v: %v; want %v", p, got, want)
		}
		begin := max(p.from, 0)
		for _, w := range got {
			if w.From != begin || w.To > p.to || !isFair(p.events, p.live, w.From, w.To) {
				t.Fatalf("%+v: %v in %v", p, w, got)
			}
			for end := w.From; end < w.To; end++ {
				if isFair(p.events, p.live, w.From, end) {
					t.Fatalf("%+v: %v could end at %d", p, w, end)
				}
			}
			begin = w.To
		}
		for end := begin; end <= p.to; end++ {
			if isFair(p.events, p.live, begin, end) {
				t.Fatalf("%+v: a window from %d to %d is missing in %v", p, begin, end, got)
			}
		}
		saw[min(len(got), 4)]++
		other := append(shuffled(m, p.events), p.events[:len(p.events)/3]...)
		if again := fair.Windows(other, shuffled(m, p.live), p.from, p.to); !slices.Equal(again, got) {
			t.Fatalf("%+v: %v; in another order %v", p, got, again)
		}
	}
	for many := range 5 {
		if saw[many] < rounds(200) {
			t.Errorf("%d plays had %d windows", saw[many], many)
		}
	}
}

// TestNoFewer: P23.4: more events, a later to and fewer sites, but two at least, make no fewer windows.
func TestNoFewer(t *testing.T) {
	m := maker{rand.New(rand.NewSource(2304))}
	saw := map[string]int{}
	for range rounds(3000) {
		p := m.some()
		got := len(both(t, p.events, p.live, p.from, p.to))
		wantMore := func(what string, q play) {
			t.Helper()
			n := len(fair.Windows(q.events, q.live, q.from, q.to))
			if n < got {
				t.Fatalf("%+v: %d windows; with %s, %+v, %d", p, got, what, q, n)
			}
			if n > got {
				saw[what]++
			}
		}
		q := p
		for range 1 + m.chance.Intn(8) {
			q.events = append(slices.Clone(q.events), m.event(p.live, p.to+1))
		}
		wantMore("more events", q)
		for more := 1; more < 12; more++ {
			q = p
			q.to += more
			wantMore("a later to", q)
		}
		q = p
		for slices.Max(q.live) > 2 {
			gone := slices.Max(q.live)
			q.live = slices.DeleteFunc(slices.Clone(q.live), func(site int) bool { return site == gone })
			wantMore("fewer sites", q)
		}
	}
	for _, what := range []string{"more events", "a later to", "fewer sites"} {
		if saw[what] < rounds(300) {
			t.Errorf("%d plays had more windows with %s", saw[what], what)
		}
	}
}

// TestDivisions: P23.5: of all divisions of short plays none has more fair stretches.
func TestDivisions(t *testing.T) {
	m := maker{rand.New(rand.NewSource(2305))}
	saw, less := map[int]int{}, 0
	for range rounds(1500) {
		sites := 2 + m.chance.Intn(2)
		p := m.play(sites, 4+m.chance.Intn(9), 6*(sites-1)+m.chance.Intn(60*(sites-1)))
		got := both(t, p.events, p.live, p.from, p.to)
		from := max(p.from, 0)
		if n := most(p.events, p.live, from, p.to); n != len(got) {
			t.Fatalf("%+v: %d windows; a division has %d", p, len(got), n)
		}
		saw[min(len(got), 3)]++
		if len(got) > 0 && most(p.events, p.live, got[0].To, p.to) > most(p.events, p.live, got[0].To+1, p.to) {
			less++
		}
	}
	for many := range 4 {
		if saw[many] < rounds(60) {
			t.Errorf("%d plays had %d windows", saw[many], many)
		}
	}
	if less < rounds(60) {
		t.Errorf("in %d plays alone it mattered where the first window ends", less)
	}
}

// TestWide: P23.1, P23.2, W1: plays of all numbers, those that are as great or as low as can be too.
func TestWide(t *testing.T) {
	m := maker{rand.New(rand.NewSource(2306))}
	one := func() int {
		n := edges[m.chance.Intn(len(edges))]
		if k := n + m.chance.Intn(3) - 1; k < 1<<62 && k > -1<<62 {
			return k
		}
		return n
	}
	windows := 0
	for range rounds(20000) {
		live := []int{one(), one(), one()}[:1+m.chance.Intn(3)]
		var events []api.Event
		for range m.chance.Intn(60) {
			e := came(live[m.chance.Intn(len(live))], live[m.chance.Intn(len(live))], one(), one())
			if m.chance.Intn(2) == 0 {
				e.Sent = e.Step
			}
			if m.chance.Intn(20) == 0 {
				e.From, e.Kind = one(), one()
			}
			events = append(events, e)
		}
		windows += len(both(t, events, live, one(), one()))
	}
	if windows < rounds(2000) {
		t.Errorf("%d windows alone", windows)
	}
}
