package peer_test

import (
	"math"
	"slices"
	"testing"

	"hearsay/api"
	"hearsay/peer"
)

// TestExamples: all rows of the chapter's examples.
func TestExamples(t *testing.T) {
	for _, x := range [][2]int{{0, 1}, {65, 1}, {1, 257}} {
		p, err := peer.New(x[0], x[1])
		wantErr(t, x, err, api.ErrArg)
		if p != nil {
			t.Errorf("%v: a peer beside an error", x)
		}
	}
	b := begun(t, 2, 5)
	b.mustSend(t, 0, 0, 0)
	wantTold(t, "a new one", tell(b.peer), told{nil, 0, 5})

	b.mustSend(t, 9, 1, 5)
	b.mustSend(t, 3, 2, 3)
	b.wantFlight(t, 1, 2)
	b.mustSend(t, 9, 1, 5)

	b.mustHear(t, 4, 1, 2, true)
	b.wantFlight(t, 2)
	wantTold(t, "Heard(4, 1, 2)", tell(b.peer), told{[]int{2}, 4, 2})
	b.mustSend(t, 9, 3, 2)
	b.wantFlight(t, 2, 3)

	b.mustHear(t, 3, 1, 0, false)
	b.mustSend(t, 9, 2, 1)
	wantTold(t, "Heard(3, 1, 0)", tell(b.peer), told{[]int{2, 3}, 4, 0})

	b.mustHear(t, -1, 99, 300, true)
	wantTold(t, "Heard(-1, 99, 300)", tell(b.peer), told{nil, 4, 256})
	b.mustSend(t, 1, 4, 1)

	b.clear()
	b.wantFlight(t)
	b.mustSend(t, 1, 5, 1)
	b.wantFlight(t, 5)

	zero := both{&peer.Peer{}, &model{}}
	zero.mustSend(t, 4, 0, 0)
	zero.mustHear(t, 1, 1, 1, false)
	wantTold(t, "a zero one", tell(zero.peer), told{nil, 1, 1})
}

// TestNew: P17.1, W3, W4: windows and pushes about their limits, each wrong by itself and both at once.
func TestNew(t *testing.T) {
	right := func(n, most int) bool { return n >= 1 && n <= most }
	numbers := slices.Concat(edges, []int{32, 128, 320, 512})
	taken := 0
	for _, window := range numbers {
		for _, push := range numbers {
			p, err := peer.New(window, push)
			if !right(window, 64) || !right(push, 256) {
				wantErr(t, [2]int{window, push}, err, api.ErrArg)
				if p != nil {
					t.Errorf("New(%d, %d): a peer beside an error", window, push)
				}
				continue
			}
			taken++
			wantErr(t, [2]int{window, push}, err, api.OK)
			wantTold(t, [2]int{window, push}, tell(p), told{nil, 0, push})
			if num, count := p.Send(math.MaxInt); num != 1 || count != push {
				t.Errorf("the first one of New(%d, %d): %d, %d", window, push, num, count)
			}
		}
	}
	// 1 to 7, 32, 63 and 64 are windows; and 65, 128, 255 and 256 beside them pushes.
	if taken != 10*14 {
		t.Errorf("%d pairs were taken", taken)
	}
	one, _ := peer.New(3, 4)
	two, _ := peer.New(3, 4)
	if one == two {
		t.Error("two new peers are one")
	}
}

// TestNewAll: P17.1, P17.6: every window and every push: so many numbers at most are in flight, so many operations at most go out.
func TestNewAll(t *testing.T) {
	for window := 1; window <= 64; window++ {
		for push := 1; push <= 256; push++ {
			p, err := peer.New(window, push)
			wantErr(t, [2]int{window, push}, err, api.OK)
			for i := range 2 * window {
				want := 1 + i
				if i >= window {
					want = 1
				}
				if num, count := p.Send(257); num != want || count != push {
					t.Fatalf("New(%d, %d), the %d-th: %d, %d", window, push, i+1, num, count)
				}
			}
			if n := len(p.Flight()); n != window {
				t.Fatalf("New(%d, %d): %d in flight", window, push, n)
			}
		}
	}
}

// TestNil: P17.5, W1, W8: to a nil peer nothing happens.
func TestNil(t *testing.T) {
	var p *peer.Peer
	for _, n := range edges {
		if num, count := p.Send(n); num != 0 || count != 0 {
			t.Errorf("Send(%d): %d, %d", n, num, count)
		}
		for _, k := range edges {
			if p.Heard(n, k, 7) || p.Heard(7, n, k) || p.Heard(k, 7, n) {
				t.Errorf("a nil peer had something in flight: %d, %d", n, k)
			}
		}
		p.Clear()
	}
	wantTold(t, "a nil peer", tell(p), told{})
}

// TestZero: P17.2, P17.3, W8: a zero peer has zeros: it gives no number, and takes in what it hears.
func TestZero(t *testing.T) {
	for _, p := range []*peer.Peer{{}, new(peer.Peer)} {
		b := both{p, &model{}}
		wantTold(t, "a zero one", tell(p), told{})
		b.clear()
		for _, n := range edges {
			b.mustSend(t, n, 0, 0)
			b.wantPeer(t)
		}
		for _, n := range edges {
			b.mustHear(t, n, n, n, false)
			b.wantPeer(t)
			b.mustSend(t, 9, 0, 0)
		}
		wantTold(t, "behind all", tell(p), told{nil, 2147483647, 256})
		b.mustHear(t, 1, math.MaxInt, -1, false)
		wantTold(t, "behind all", tell(p), told{nil, 2147483647, 0})
		b.clear()
		b.mustSend(t, 1, 0, 0)
		b.wantFlight(t)
	}
}

// TestCount: P17.2, P17.7: how many go out, of many lacks, pushes and credits: each of the three is the least one somewhere.
func TestCount(t *testing.T) {
	for _, x := range []struct{ push, credit, lacks, want int }{
		{5, 5, 1, 1}, {5, 5, 4, 4}, {5, 5, 5, 5}, {5, 5, 6, 5}, {5, 5, math.MaxInt, 5}, {5, 3, 9, 3}, {5, 3, 2, 2}, {5, 7, 9, 5}, {5, 7, 6, 5}, {5, 7, 4, 4},
		{5, 0, 9, 1}, {5, 0, 1, 1}, {5, 1, 9, 1}, {5, 1, 1, 1}, {5, 2, 9, 2}, {5, -1, 9, 1}, {5, math.MinInt, 9, 1}, {5, math.MaxInt, 9, 5},
		{1, 0, 9, 1}, {1, 1, 9, 1}, {1, 256, 9, 1}, {256, 256, 256, 256}, {256, 256, 257, 256}, {256, 256, 255, 255}, {256, 255, 256, 255}, {256, 257, 999, 256}, {255, 256, 256, 255},
		{5, 0, 0, 0}, {5, 9, 0, 0}, {5, 9, -1, 0}, {5, 0, math.MinInt, 0}, {256, 0, 1 << 32, 1}, {256, 3, 1 << 32, 3}, {256, 300, 1<<32 + 1, 256},
	} {
		b := begun(t, 1, x.push)
		b.hear(t, 0, 0, x.credit)
		want := 1
		if x.want == 0 {
			want = 0
		}
		b.mustSend(t, x.lacks, want, x.want)
		b.mustSend(t, x.lacks, want, x.want)
		b.wantPeer(t)
	}
	numbers := slices.Concat(edges, []int{31, 32, 33, 127, 128, 129, 254})
	for _, push := range []int{1, 2, 5, 32, 64, 255, 256} {
		for _, credit := range numbers {
			b := begun(t, 2, push)
			b.hear(t, 0, 0, credit)
			for _, lacks := range numbers {
				b.send(t, lacks)
				b.clear()
				// The calls that were held against their model already need not be gone through again, but what credit they left.
				b.model.last = slices.Max(append(b.model.given(), b.model.last))
				b.model.past = b.model.past[:1]
			}
			b.wantPeer(t)
		}
		for lacks := range 300 {
			b := begun(t, 1, push)
			b.mustSend(t, lacks, min(lacks, 1), min(lacks, push))
		}
	}
}

// TestSendNothing: P17.2, W3: a peer that lacks nothing is sent nothing: no number is used up, with nothing in flight, with some and with all that may be.
func TestSendNothing(t *testing.T) {
	for _, window := range []int{1, 2, 64} {
		b := begun(t, window, 5)
		for i := range window + 2 {
			before := tell(b.peer)
			for _, n := range edges {
				if n < 1 {
					b.mustSend(t, n, 0, 0)
				}
			}
			wantTold(t, "Send of nothing", tell(b.peer), before)
			want := 1
			if i < window {
				want = 1 + i
			}
			b.mustSend(t, 1, want, 1)
		}
		b.wantPeer(t)
	}
}

// TestWindow: P17.2, P17.6: as many are in flight as the window says; then the least one is given again, as often as one likes, until it is acknowledged.
func TestWindow(t *testing.T) {
	b := begun(t, 3, 5)
	b.wantFlight(t)
	b.mustSend(t, 2, 1, 2)
	b.wantFlight(t, 1)
	b.mustSend(t, 2, 2, 2)
	b.wantFlight(t, 1, 2)
	b.mustSend(t, 2, 3, 2)
	for range 3 {
		b.wantFlight(t, 1, 2, 3)
		b.mustSend(t, 7, 1, 5)
	}
	b.mustHear(t, 1, 1, 5, true)
	b.wantFlight(t, 2, 3)
	b.mustSend(t, 1, 4, 1)
	for range 3 {
		b.wantFlight(t, 2, 3, 4)
		b.mustSend(t, 1, 2, 1)
	}
	b.mustHear(t, 1, 3, 5, true)
	b.wantFlight(t, 4)
	b.mustSend(t, 1, 5, 1)
	b.mustSend(t, 1, 6, 1)
	b.mustSend(t, 1, 4, 1)
	b.wantFlight(t, 4, 5, 6)
	b.mustHear(t, 1, 6, 5, true)
	b.wantFlight(t)
	b.mustSend(t, 1, 7, 1)

	b = begun(t, 1, 5)
	for num := 1; num < 40; num++ {
		b.mustSend(t, 1, num, 1)
		b.mustSend(t, 1, num, 1)
		b.wantFlight(t, num)
		b.mustHear(t, 1, num-1, 5, false)
		b.mustSend(t, 1, num, 1)
		b.mustHear(t, 1, num, 5, true)
		b.wantFlight(t)
	}
}

// TestHeardNum: P17.3: the greatest number that was heard, of such that rise, fall, come again, and are none.
func TestHeardNum(t *testing.T) {
	b := begun(t, 2, 5)
	for _, x := range [][2]int{
		{0, 0}, {-1, 0}, {math.MinInt, 0}, {math.MaxInt, 0}, {1 << 31, 0}, {1 << 32, 0}, {1<<32 + 9, 0}, {1, 1}, {1, 1}, {0, 1}, {-7, 1}, {7, 7}, {6, 7}, {7, 7}, {8, 8}, {1, 8}, {300, 300}, {256, 300},
		{1 << 31, 300}, {1<<32 - 1, 300}, {2147483646, 2147483646}, {300, 2147483646}, {2147483647, 2147483647}, {2147483648, 2147483647}, {2147483646, 2147483647}, {0, 2147483647}, {math.MaxInt, 2147483647}, {math.MinInt, 2147483647},
	} {
		b.mustHear(t, x[0], 0, 3, false)
		if got := b.peer.Got(); got != x[1] {
			t.Errorf("Got behind %d: %d; want %d", x[0], got, x[1])
		}
		b.wantPeer(t)
	}
	// What was heard of the peer has nothing to do with the numbers that are given to it.
	b.mustSend(t, 1, 1, 1)
}

// TestHeardGot: P17.3, P17.8: gots about all numbers that are in flight: what they tell, and what they leave.
func TestHeardGot(t *testing.T) {
	for _, x := range []struct {
		got  int
		want bool
		left []int
	}{
		{math.MinInt, false, []int{11, 12, 13, 14}}, {-1, false, []int{11, 12, 13, 14}}, {0, false, []int{11, 12, 13, 14}}, {1, false, []int{11, 12, 13, 14}}, {10, false, []int{11, 12, 13, 14}},
		{11, true, []int{12, 13, 14}}, {12, true, []int{13, 14}}, {13, true, []int{14}}, {14, true, nil}, {15, true, nil}, {99, true, nil}, {math.MaxInt, true, nil}, {1 << 31, true, nil}, {1<<32 + 11, true, nil}, {-1<<32 + 12, false, []int{11, 12, 13, 14}},
	} {
		b := full(t, 4, 11)
		b.mustHear(t, 1, x.got, 5, x.want)
		b.wantFlight(t, x.left...)
		b.mustHear(t, 1, x.got, 5, false)
		b.wantFlight(t, x.left...)
		want := 11
		if x.want {
			want = 15
		}
		b.mustSend(t, 1, want, 1)
		b.wantPeer(t)
	}

	// Out of order: what was acknowledged already is so no more than once, and nothing comes back into flight.
	b := full(t, 5, 1)
	b.mustHear(t, 3, 3, 5, true)
	b.wantFlight(t, 4, 5)
	b.mustHear(t, 1, 1, 5, false)
	b.mustHear(t, 2, 2, 5, false)
	b.mustHear(t, 3, 3, 5, false)
	b.wantFlight(t, 4, 5)
	b.mustHear(t, 4, 5, 5, true)
	b.mustHear(t, 4, 4, 5, false)
	b.mustHear(t, 4, 5, 5, false)
	b.wantFlight(t)

	// An acknowledgement ahead of what was given says nothing of what is given later.
	b = begun(t, 3, 5)
	b.mustHear(t, 1, 50, 5, false)
	b.mustSend(t, 1, 1, 1)
	b.wantFlight(t, 1)
	b.mustHear(t, 1, 50, 5, true)
	b.mustSend(t, 1, 2, 1)
	b.wantFlight(t, 2)
}

// TestHeardCredit: P17.3: the credit is the last one that was heard, the lower one too, within its limits.
func TestHeardCredit(t *testing.T) {
	b := begun(t, 2, 5)
	for _, x := range [][2]int{
		{0, 0}, {1, 1}, {7, 7}, {3, 3}, {-1, 0}, {255, 255}, {256, 256}, {257, 256}, {math.MaxInt, 256}, {math.MinInt, 0}, {1 << 32, 256}, {1<<32 + 3, 256}, {-1<<32 + 3, 0}, {5, 5}, {5, 5}, {0, 0},
	} {
		b.mustHear(t, 0, 0, x[0], false)
		if credit := b.peer.Credit(); credit != x[1] {
			t.Errorf("Credit behind %d: %d; want %d", x[0], credit, x[1])
		}
		b.mustSend(t, 9, 1, min(5, max(1, x[1])))
		// Sending uses up no credit: the peer says how much there is.
		b.mustSend(t, 9, 2, min(5, max(1, x[1])))
		b.wantPeer(t)
		b = begun(t, 2, 5)
	}
	for credit := -5; credit < 270; credit++ {
		b := begun(t, 1, 256)
		b.mustHear(t, 9, 9, credit, false)
		wantTold(t, credit, tell(b.peer), told{nil, 9, min(256, max(0, credit))})
		b.mustSend(t, 999, 1, min(256, max(1, credit)))
	}
}

// TestHeardEdges: P17.3, W1: numbers, gots and credits about each limit, all together.
func TestHeardEdges(t *testing.T) {
	for _, first := range []int{1, 62, 255, 2147483640} {
		for _, num := range edges {
			for _, got := range edges {
				for _, credit := range []int{math.MinInt, -1, 0, 1, 255, 256, 257, math.MaxInt} {
					b := full(t, 3, first)
					b.hear(t, num, got, credit)
					b.wantPeer(t)
					b.hear(t, got, num, got)
					b.send(t, 300)
					b.wantPeer(t)
					if t.Failed() {
						t.Fatalf("from %d: %d, %d, %d", first, num, got, credit)
					}
				}
			}
		}
	}
}

// TestTwice: P17.8: what is heard twice is heard once, but for what Heard tells: both go on side by side.
func TestTwice(t *testing.T) {
	for _, num := range []int{-1, 0, 1, 5, 2147483647, 2147483648} {
		for _, got := range []int{-1, 0, 1, 2, 3, 4, 5, 6, math.MaxInt} {
			for _, credit := range []int{-1, 0, 2, 300} {
				once, twice := full(t, 4, 2), full(t, 4, 2)
				some := once.hear(t, num, got, credit)
				twice.mustHear(t, num, got, credit, some)
				twice.mustHear(t, num, got, credit, false)
				for range 6 {
					wantTold(t, []int{num, got, credit}, tell(twice.peer), tell(once.peer))
					n, c := once.send(t, 9)
					twice.mustSend(t, 9, n, c)
				}
			}
		}
	}
}

// TestEmpties: P17.8: a got that is the last number, or above it, empties the flight, however many are in it.
func TestEmpties(t *testing.T) {
	for window := 1; window <= 64; window++ {
		for flying := 1; flying <= window; flying++ {
			for _, got := range []int{flying, flying + 1, math.MaxInt} {
				p, _ := peer.New(window, 5)
				for range flying {
					p.Send(1)
				}
				if n := len(p.Flight()); n != flying || !p.Heard(1, got, 5) || len(p.Flight()) != 0 {
					t.Errorf("a window of %d: %d in flight, and %v behind %d", window, n, p.Flight(), got)
				}
			}
		}
	}
}

// TestClear: P17.4, P17.6: nothing is in flight behind it, and nothing else is another: the numbers go on.
func TestClear(t *testing.T) {
	b := begun(t, 3, 5)
	b.clear()
	b.wantFlight(t)
	b.mustSend(t, 1, 1, 1)
	b.mustHear(t, 8, 0, 2, false)
	b.clear()
	wantTold(t, "Clear", tell(b.peer), told{nil, 8, 2})
	b.clear()
	b.mustHear(t, 8, 99, 2, false)
	for num := 2; num < 5; num++ {
		b.mustSend(t, 9, num, 2)
	}
	b.wantFlight(t, 2, 3, 4)
	b.clear()
	wantTold(t, "Clear", tell(b.peer), told{nil, 8, 2})
	b.mustSend(t, 9, 5, 2)
	b.wantFlight(t, 5)

	for window := 1; window <= 64; window++ {
		b := full(t, window, 7)
		b.clear()
		b.wantFlight(t)
		b.mustHear(t, 1, math.MaxInt, 5, false)
		b.mustSend(t, 1, 7+window, 1)
		b.wantFlight(t, 7+window)
	}
}

// TestMaxNum: P17.2, P17.6: the numbers come to MaxNum, which is given again then, and is in flight once.
func TestMaxNum(t *testing.T) {
	const most = 2147483647
	b := behind(t, 1, 5, most-2)
	b.mustSend(t, 1, most-1, 1)
	b.mustHear(t, 1, most-1, 5, true)
	for range 3 {
		for range 3 {
			b.mustSend(t, 1, most, 1)
			b.wantFlight(t, most)
		}
		b.mustHear(t, 1, most-1, 5, false)
		b.mustHear(t, 1, most, 5, true)
		b.wantFlight(t)
		b.mustSend(t, 1, most, 1)
		b.clear()
		b.wantFlight(t)
	}

	b = behind(t, 4, 5, most-3)
	b.mustSend(t, 1, most-2, 1)
	b.mustSend(t, 1, most-1, 1)
	for range 5 {
		b.mustSend(t, 9, most, 5)
		b.wantFlight(t, most-2, most-1, most)
	}
	b.mustHear(t, most, most-2, 3, true)
	b.wantFlight(t, most-1, most)
	b.mustSend(t, 9, most, 3)
	b.wantFlight(t, most-1, most)
	b.mustHear(t, most, most-1, 3, true)
	for range 3 {
		b.mustSend(t, 9, most, 3)
		b.wantFlight(t, most)
	}
	b.mustHear(t, most, math.MaxInt, 3, true)
	b.wantFlight(t)
	for range 3 {
		b.mustSend(t, 9, most, 3)
		b.wantFlight(t, most)
	}
	b.mustHear(t, most, most, 3, true)
	b.mustHear(t, most, most, 3, false)

	// A window that is full of numbers up to MaxNum gives the least one.
	for _, window := range []int{1, 2, 3, 64} {
		b := full(t, window, most-window+1)
		for range 3 {
			b.mustSend(t, 1, most-window+1, 1)
			b.wantPeer(t)
		}
		b.mustHear(t, 1, most-window+1, 5, true)
		b.mustSend(t, 1, most, 1)
		b.wantPeer(t)
		b.clear()
		b.mustSend(t, 1, most, 1)
		b.wantFlight(t, most)
	}
}

// TestWayUp: P17.2, P17.6: all numbers from 1 on, by the listed calls alone: each is one more than the one ahead, up to MaxNum, where it ends as it does for a peer that was begun near it.
func TestWayUp(t *testing.T) {
	if testing.Short() {
		t.Skip("it takes some seconds")
	}
	t.Parallel()
	const most = 2147483647
	p, _ := peer.New(64, 5)
	for want := 1; want <= most-100; want++ {
		if num, _ := p.Send(1); num != want {
			t.Fatalf("Send: %d; want %d", num, want)
		}
		if want%64 == 0 {
			p.Heard(1, want, 5)
		}
	}
	p.Clear()
	b := both{p, &model{window: 64, push: 5, last: most - 100}}
	b.model.past = []call{{heard, 1, 0, 5}}
	for i := range 300 {
		b.send(t, 9)
		if i%40 == 0 {
			b.hear(t, i, most-90+i, 7)
		}
		b.wantPeer(t)
	}
	b.wantFlight(t, most)
}
