package peer_test

import (
	"runtime"
	"slices"
	"testing"

	"hearsay/peer"
)

// TestAnswersApart: P17.9, W6: no two answers share anything, and none shares anything with what the peer keeps; nor does what was answered earlier go on with the peer.
func TestAnswersApart(t *testing.T) {
	for _, window := range []int{1, 2, 3, 5, 16, 64} {
		b := full(t, window, 9)
		want := b.model.flight()
		all := [][]int{b.peer.Flight(), b.peer.Flight(), b.peer.Flight()}
		for i := range all {
			for k := i; k < len(all); k++ {
				if !slices.Equal(all[k], want) {
					t.Errorf("%d behind spoiling %d: %v; want %v", k, i-1, all[k], want)
				}
			}
			spoil(all[i])
			b.wantPeer(t)
		}

		earlier := b.peer.Flight()
		for i := range 4 * window {
			b.hear(t, i, 9+i/2, 5)
			b.send(t, 2)
			spoil(b.peer.Flight())
			b.wantPeer(t)
		}
		if !slices.Equal(earlier, want) {
			t.Errorf("an earlier answer is now %v; it was %v", earlier, want)
		}

		// What is laid behind the end of an answer is nowhere to be seen later, nor does it spoil what comes.
		short := b.peer.Flight()
		b.hear(t, 1, 9+2*window, 5)
		spoil(append(short, -5))
		spoil(append(b.peer.Flight(), -6))
		for range window {
			b.send(t, 2)
			b.wantPeer(t)
		}
		b.clear()
		spoil(append(b.peer.Flight(), -7))
		b.send(t, 2)
		b.wantPeer(t)
	}
}

// inUse is how many bytes are held on to.
func inUse() int {
	var m runtime.MemStats
	runtime.GC()
	runtime.ReadMemStats(&m)
	return int(m.HeapAlloc)
}

// TestKeepsLittle: P17.6: a peer does not grow by being told much: a flight that moves on has no more room than its window asks for.
func TestKeepsLittle(t *testing.T) {
	var peers []*peer.Peer
	before := inUse()
	for i := range 20 {
		p, _ := peer.New(1+3*i, 5)
		for num := range 100000 {
			p.Send(1)
			p.Heard(num, num-2*i, num)
		}
		peers = append(peers, p)
	}
	if n := inUse() - before; n > 1<<16 {
		t.Errorf("%d bytes are kept", n)
	}
	runtime.KeepAlive(peers)
}
