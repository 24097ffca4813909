package peer_test

import (
	"math/rand"
	"slices"
	"testing"

	"hearsay/peer"
)

// TestFewCalls: P17.2 to P17.8: all rows of few calls, with small windows, from the first number on and near the last one.
func TestFewCalls(t *testing.T) {
	const most = 2147483647
	for _, x := range []struct{ window, last int }{{1, 0}, {2, 0}, {3, 0}, {1, most - 1}, {2, most - 2}, {3, most - 1}, {2, most}} {
		send := func(lacks int) func(b both) { return func(b both) { b.send(t, lacks) } }
		hear := func(num, got, credit int) func(b both) { return func(b both) { b.hear(t, num, x.last+got, credit) } }
		calls := []func(b both){send(0), send(1), send(9), hear(1, 0, 0), hear(3, 1, 4), hear(2, 2, 1), hear(-1, 3, -1), hear(most+1, 9, 999), both.clear}
		rows := [][]int{nil}
		for at := 0; at < len(rows); at++ {
			b := behind(t, x.window, 3, x.last)
			for _, i := range rows[at] {
				calls[i](b)
			}
			b.wantPeer(t)
			if t.Failed() {
				t.Fatalf("%v: %v", x, rows[at])
			}
			for i := range calls {
				if len(rows[at]) < 5 {
					rows = append(rows, append(slices.Clone(rows[at]), i))
				}
			}
		}
	}
}

// step does one call by chance twice over, and says which and how it ended. Numbers are about those that were given, seldom anything.
func (b both) step(t *testing.T, chance *rand.Rand) string {
	t.Helper()
	orEdge := func(n int) int {
		if chance.Intn(12) == 0 {
			return edges[chance.Intn(len(edges))]
		}
		return n
	}
	switch chance.Intn(10) {
	case 0, 1, 2, 3, 4:
		again := len(b.peer.Flight()) == b.model.window
		switch num, _ := b.send(t, orEdge(chance.Intn(2*b.model.push+1))); {
		case num == 0:
			return "nothing sent"
		case again:
			return "sent again"
		case num == 2147483647:
			return "the last number"
		}
		return "sent"
	case 5:
		if chance.Intn(3) == 0 {
			b.clear()
			return "cleared"
		}
		fallthrough
	default:
		got := b.model.last
		if flight := b.peer.Flight(); len(flight) > 0 {
			got = flight[chance.Intn(len(flight))] - chance.Intn(3)
		}
		if b.hear(t, orEdge(chance.Intn(30)), orEdge(got), orEdge(chance.Intn(b.model.push+3))) {
			return "acknowledged"
		}
		return "heard"
	}
}

// byChance is a talk by chance, of which every fifth one is near the last number.
func byChance(t *testing.T, chance *rand.Rand) both {
	t.Helper()
	last := 0
	if chance.Intn(5) == 0 {
		last = 2147483647 - chance.Intn(30)
	}
	window := 1 + chance.Intn(6)
	if chance.Intn(6) == 0 {
		window = 64
	}
	return behind(t, window, 1+chance.Intn(9), last)
}

// TestScripts: P17.1 to P17.8: calls by chance, each held against what it must do, with all that the peer tells behind each.
func TestScripts(t *testing.T) {
	chance := rand.New(rand.NewSource(17))
	seen := map[string]int{}
	for range 800 {
		b := byChance(t, chance)
		for range 100 {
			seen[b.step(t, chance)]++
			b.wantPeer(t)
		}
		if t.Failed() {
			return
		}
	}
	for _, what := range []string{"sent", "sent again", "nothing sent", "the last number", "acknowledged", "heard", "cleared"} {
		if seen[what] < 1000 {
			t.Errorf("%s: %d times alone", what, seen[what])
		}
	}
}

// TestBounds: P17.6, P17.7: what follows, asked of scripts by chance as it stands in the chapter, without a peer worked out a second time.
func TestBounds(t *testing.T) {
	chance := rand.New(rand.NewSource(176))
	for range 600 {
		window, push := 1+chance.Intn(8), 1+chance.Intn(12)
		p, _ := peer.New(window, push)
		given := map[int]int{}
		greatest := 0
		for range 80 {
			switch chance.Intn(5) {
			case 0:
				p.Heard(chance.Intn(50), greatest-chance.Intn(window+3), chance.Intn(push+4)-1)
			case 1:
				if chance.Intn(8) == 0 {
					p.Clear()
				}
			default:
				lacks := 1 + chance.Intn(2*push)
				before, credit := p.Flight(), p.Credit()
				num, count := p.Send(lacks)
				if num <= greatest && !slices.Contains(before, num) {
					t.Errorf("%d was given behind %d, with %v in flight", num, greatest, before)
				}
				if count < 1 || count > lacks || count > push || count > 1 && count > credit {
					t.Errorf("%d go out of %d, with a push of %d and a credit of %d", count, lacks, push, credit)
				}
				if p.Credit() != credit || !slices.Contains(p.Flight(), num) {
					t.Errorf("behind Send: %v in flight without %d, the credit %d", p.Flight(), num, p.Credit())
				}
				given[num]++
				greatest = max(greatest, num)
			}
			wantBounds(t, p.Flight(), window, given)
		}
		if t.Failed() {
			return
		}
	}
}

// wantBounds holds that at most as many are in flight as the window says, each of which was given, rising.
func wantBounds(t *testing.T, flight []int, window int, given map[int]int) {
	t.Helper()
	if len(flight) > window {
		t.Errorf("%d in flight, with a window of %d", len(flight), window)
	}
	for i, num := range flight {
		if given[num] == 0 || i > 0 && num <= flight[i-1] {
			t.Errorf("%d in flight, of %v", num, flight)
		}
	}
}

// TestGoesOn: W2: what a peer answers hangs on its calls alone: another one with the same calls goes on as the first one does, whatever was asked of it meanwhile.
func TestGoesOn(t *testing.T) {
	chance := rand.New(rand.NewSource(172))
	for range 100 {
		b := byChance(t, chance)
		for range chance.Intn(60) {
			b.step(t, chance)
			b.wantPeer(t)
		}
		twin := b.again(t)
		wantTold(t, b, tell(twin.peer), tell(b.peer))
		for range 10 {
			num, count := b.send(t, 3)
			twin.mustSend(t, 3, num, count)
		}
		if t.Failed() {
			return
		}
	}
}

// TestInTurns: W2: two peers in turns, which know nothing of one another.
func TestInTurns(t *testing.T) {
	chance := rand.New(rand.NewSource(171))
	for range 100 {
		one, two := byChance(t, chance), full(t, 3, 5)
		for range 50 {
			if chance.Intn(2) == 0 {
				one.step(t, chance)
			} else {
				two.step(t, chance)
			}
			one.wantPeer(t)
			two.wantPeer(t)
		}
		if t.Failed() {
			return
		}
	}
}

// TestCopied: W8: a peer that is copied as a value goes on as the copy.
func TestCopied(t *testing.T) {
	chance := rand.New(rand.NewSource(178))
	for range 100 {
		b := byChance(t, chance)
		for range 5 {
			for range chance.Intn(20) {
				b.step(t, chance)
			}
			other := *b.peer
			b.peer = &other
			b.wantPeer(t)
		}
		if t.Failed() {
			return
		}
	}
	zero := peer.Peer{}
	other := zero
	b := both{&other, &model{}}
	b.mustSend(t, 1, 0, 0)
	b.mustHear(t, 2, 2, 2, false)
	b.wantPeer(t)
}
