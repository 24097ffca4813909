package peer_test

import (
	"fmt"
	"math"
	"slices"
	"testing"

	"hearsay/api"
	"hearsay/peer"
)

// What the chapter says, worked out a second time by other means: all calls are kept as they came, with the numbers that were given, and nothing else. What is in flight, what was heard and what the credit is are worked out of them each time.

type model struct {
	window, push int
	last         int // the last number ahead of all calls
	past         []call
}

// Kinds of calls.
const (
	sent    = 1
	heard   = 2
	cleared = 3
)

// call is a Send that gave a number, a Heard or a Clear.
type call struct {
	kind             int
	num, got, credit int
}

// ends tells whether a call takes a number out of flight.
func (c call) ends(num int) bool { return c.kind == cleared || c.kind == heard && c.got >= num }

// given is the numbers that were given, each once, rising.
func (m *model) given() []int {
	var all []int
	for _, c := range m.past {
		if c.kind == sent {
			all = append(all, c.num)
		}
	}
	slices.Sort(all)
	return slices.Compact(all)
}

// flight is the numbers that were given, and that no call took out of flight since.
func (m *model) flight() []int {
	return slices.DeleteFunc(m.given(), func(num int) bool {
		for _, c := range slices.Backward(m.past) {
			if c.kind == sent && c.num == num {
				return false
			}
			if c.ends(num) {
				return true
			}
		}
		return true
	})
}

func (m *model) got() int {
	greatest := 0
	for _, c := range m.past {
		if c.kind == heard && c.num >= 1 && c.num <= 2147483647 && c.num > greatest {
			greatest = c.num
		}
	}
	return greatest
}

func (m *model) credit() int {
	for _, c := range slices.Backward(m.past) {
		if c.kind == heard {
			switch {
			case c.credit < 0:
				return 0
			case c.credit > 256:
				return 256
			}
			return c.credit
		}
	}
	return m.push
}

// count is how many go out: the most that are no more than any of the three, the credit but 1.
func (m *model) count(lacks int) int {
	for n := 256; n > 0; n-- {
		if n <= lacks && n <= m.push && (n <= m.credit() || n == 1) {
			return n
		}
	}
	return 0
}

// next is the number of the next frame.
func (m *model) next() int {
	flight := m.flight()
	if len(flight) == m.window {
		return flight[0]
	}
	last := slices.Max(append(m.given(), m.last))
	if last == 2147483647 {
		return last
	}
	return last + 1
}

func (m *model) send(lacks int) (int, int) {
	if lacks < 1 || m.window == 0 {
		return 0, 0
	}
	num, count := m.next(), m.count(lacks)
	m.past = append(m.past, call{kind: sent, num: num})
	return num, count
}

// hear is what Heard tells: whether fewer are in flight behind it.
func (m *model) hear(num, got, credit int) bool {
	before := len(m.flight())
	m.past = append(m.past, call{heard, num, got, credit})
	return len(m.flight()) < before
}

// edges is numbers about each limit there is, and such whose low bits are those of others.
var edges = []int{
	math.MinInt, math.MinInt + 1, -1<<32 - 1, -1 << 32, -1<<32 + 1, -1 << 31, -257, -256, -65, -64, -2, -1, 0, 1, 2, 3, 4, 5, 6, 7, 63, 64, 65, 255, 256, 257, 258, 1 << 16, 1<<16 + 1,
	1<<31 - 2, 1<<31 - 1, 1 << 31, 1<<31 + 1, 1<<32 - 1, 1 << 32, 1<<32 + 1, 1<<32 + 5, math.MaxInt - 1, math.MaxInt,
}

// both is a peer, and the same worked out a second time.
type both struct {
	peer  *peer.Peer
	model *model
}

// begun is a talk that has not begun.
func begun(t *testing.T, window, push int) both {
	t.Helper()
	p, err := peer.New(window, push)
	if err != api.OK || p == nil {
		t.Fatalf("New(%d, %d): %v, error %d", window, push, p, int(err))
	}
	return both{p, &model{window: window, push: push}}
}

// behind is a talk that gave its numbers up to last, none of which is in flight.
func behind(t *testing.T, window, push, last int) both {
	t.Helper()
	p, err := peer.Behind(window, push, last)
	if err != api.OK || p == nil {
		t.Fatalf("Behind(%d, %d, %d): %v, error %d", window, push, last, p, int(err))
	}
	return both{p, &model{window: window, push: push, last: last}}
}

// again is another talk with which the same calls were made.
func (b both) again(t *testing.T) both {
	t.Helper()
	twin := behind(t, b.model.window, b.model.push, b.model.last)
	for _, c := range b.model.past {
		switch c.kind {
		case sent:
			twin.send(t, 1)
		case heard:
			twin.hear(t, c.num, c.got, c.credit)
		case cleared:
			twin.clear()
		}
	}
	return twin
}

// send calls Send twice over, and holds what is answered against what it must be.
func (b both) send(t *testing.T, lacks int) (int, int) {
	t.Helper()
	num, count := b.peer.Send(lacks)
	if n, c := b.model.send(lacks); num != n || count != c {
		t.Errorf("Send(%d): %d, %d; want %d, %d, behind %v", lacks, num, count, n, c, b)
	}
	return num, count
}

// hear calls Heard twice over, and holds what is told against what it must be.
func (b both) hear(t *testing.T, num, got, credit int) bool {
	t.Helper()
	some := b.peer.Heard(num, got, credit)
	if want := b.model.hear(num, got, credit); some != want {
		t.Errorf("Heard(%d, %d, %d): %v; want %v, behind %v", num, got, credit, some, want, b)
	}
	return some
}

func (b both) clear() {
	b.peer.Clear()
	b.model.past = append(b.model.past, call{kind: cleared})
}

// mustSend calls Send, the answer of which is written out.
func (b both) mustSend(t *testing.T, lacks, num, count int) {
	t.Helper()
	if n, c := b.send(t, lacks); n != num || c != count {
		t.Errorf("Send(%d): %d, %d; want %d, %d", lacks, n, c, num, count)
	}
}

// mustHear calls Heard, the answer of which is written out.
func (b both) mustHear(t *testing.T, num, got, credit int, want bool) {
	t.Helper()
	if some := b.hear(t, num, got, credit); some != want {
		t.Errorf("Heard(%d, %d, %d): %v; want %v", num, got, credit, some, want)
	}
}

// full is a talk with as many numbers in flight as its window says, from first on.
func full(t *testing.T, window, first int) both {
	t.Helper()
	b := behind(t, window, 5, first-1)
	for i := range window {
		b.mustSend(t, 1, first+i, 1)
	}
	return b
}

// String is the last calls, in few words.
func (b both) String() string {
	past := b.model.past
	return fmt.Sprintf("%d calls, the last ones %v", len(past), past[max(0, len(past)-8):])
}

// told is all that a peer tells.
type told struct {
	flight      []int
	got, credit int
}

// tell is what a peer tells; the list that it answered is spoilt.
func tell(p *peer.Peer) told { return told{kept(p.Flight()), p.Got(), p.Credit()} }

// wantTold holds what a peer tells against what it must tell.
func wantTold(t *testing.T, about any, got, want told) {
	t.Helper()
	if !slices.Equal(got.flight, want.flight) || got.got != want.got || got.credit != want.credit {
		t.Errorf("%v: %+v; want %+v", about, got, want)
	}
}

// wantPeer holds all that a peer tells against what it must tell, twice, as asking changes nothing.
func (b both) wantPeer(t *testing.T) {
	t.Helper()
	want := told{b.model.flight(), b.model.got(), b.model.credit()}
	wantTold(t, b, tell(b.peer), want)
	wantTold(t, b, tell(b.peer), want)
}

// wantFlight holds what is in flight against what is written out.
func (b both) wantFlight(t *testing.T, want ...int) {
	t.Helper()
	if got := b.peer.Flight(); !slices.Equal(got, want) {
		t.Errorf("in flight: %v; want %v", got, want)
	}
	b.wantPeer(t)
}

// kept is a list that was answered, which is spoilt then, as far as its room goes.
func kept(list []int) []int {
	was := slices.Clone(list)
	spoil(list)
	return was
}

func spoil(list []int) {
	list = list[:cap(list)]
	for i := range list {
		list[i] = -77
	}
}

// wantErr holds an error against what it must be.
func wantErr(t *testing.T, about any, got, want api.Errno) {
	t.Helper()
	if got != want {
		t.Errorf("%v: error %d; want %d", about, int(got), int(want))
	}
}
