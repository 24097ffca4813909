package replica_test

import (
	"encoding/hex"
	"math"
	"slices"
	"strings"
	"testing"

	"hearsay/api"
	"hearsay/replica"
)

// wantBytes holds a frame against a body that is written out, with its length and its sum.
func wantBytes(t *testing.T, got []byte, body ...string) {
	t.Helper()
	b, err := hex.DecodeString(strings.ReplaceAll(strings.Join(body, ""), " ", ""))
	if err != nil {
		t.Fatal(err)
	}
	if want := summed(b); !slices.Equal(got, want) {
		t.Fatalf("% x; want % x", got, want)
	}
}

// TestBytes: P18.5, P18.7: what goes out, byte for byte: an image, an answer without operations, and one operation of each kind.
func TestBytes(t *testing.T) {
	a, b := found(t, 1, c), idle(t, 2, c)
	a.mustInsert(t, 0, "hé")
	a.mustJoin(t, 2)
	said := a.mustDraw(t, 2)
	wantBytes(t, said,
		"02 01 02 01 00 08 00 010103", // an image, from 1 to 2, number 1, got 0, credit 8, no answer; {1 3}
		"010103 00 02",                // its vector, its base, its clock
		"03 03 0101 00 01",            // the join of 1
		"01 0102 010101 01 0000 03 68c3a9",
		"03 0103 010102 02",
		"02 0101 0000 68 01  0201 0101 e901 01", // its elements
		"02 01 02 00 02")
	said = b.mustReceive(t, said, 1)[0]
	wantBytes(t, said, "01 02 01 00 01 08 01 010103 00")
	a.mustReceive(t, said, 0)

	b.mustInsert(t, 2, "!")
	b.mustDelete(t, 0, 1)
	b.mustJoin(t, 3)
	said = b.mustDraw(t, 1)
	wantBytes(t, said,
		"01 02 01 01 01 08 00 02 0103 0203",
		"03 01 0201 010103 03 0201 01 21",
		"02 0202 02 0103 0201 01 010101",
		"03 0203 02 0103 0202 03")
	said = a.mustReceive(t, said, 1)[0]
	wantBytes(t, said, "01 01 02 00 01 08 01 02 0103 0203 00")
	a.wantText(t, "é!")
	b.mustReceive(t, said, 0)

	b.mustLeave(t)
	said = b.mustDraw(t, 1)
	wantBytes(t, said, "01 02 01 02 01 08 00 02 0103 0204", "01 04 0204 02 0103 0203")
	a.mustReceive(t, said, 0)
	wantBytes(t, b.mustDraw(t, 3), "02 02 03 01 00 08 00 02 0103 0204",
		"02 0103 0204 00 03",
		"07 03 0101 00 01",
		"01 0102 010101 01 0000 03 68c3a9",
		"03 0103 010102 02",
		"01 0201 010103 03 0201 01 21",
		"02 0202 02 0103 0201 01 010101",
		"03 0203 02 0103 0202 03",
		"04 0204 02 0103 0203",
		"03 0101 0000 68 02  0201 0101 e901 01  0302 0201 21 01",
		"03 01 02 03 01 02 04")
}

// heardOf lets a site hear of another one what that one has, and how much room it has there.
func heardOf(t *testing.T, b both, from, credit int, have api.Vector) {
	t.Helper()
	b.mustReceive(t, encoded(t, api.Frame{Kind: api.FrameOps, From: from, To: b.m.site, Credit: credit, Answer: true, Have: have}), 0)
}

// TestDraw: P18.5, W4: this site, no member, and members that lack more and less than Push and the credit allow.
func TestDraw(t *testing.T) {
	a := found(t, 1, c)
	for _, peer := range edges {
		_, err := a.draw(t, peer)
		wantErr(t, peer, err, api.ErrArg)
	}
	a.mustJoin(t, 16)
	wantFrame(t, a.mustDraw(t, 16), api.Frame{Kind: api.FrameImage, From: 1, To: 16, Num: 1, Credit: 8, Have: v(1, 2)})
	for _, peer := range edges {
		if peer != 16 {
			_, err := a.draw(t, peer)
			wantErr(t, peer, err, api.ErrArg)
		}
	}
	for _, push := range []int{1, 2, 3, 7, 256} {
		for _, credit := range []int{0, 1, 2, 3, 6, 256} {
			for lacks := range 9 {
				wide := c
				wide.Push = push
				a := found(t, 1, wide)
				a.mustJoin(t, 2)
				var all []api.Op
				for i := range 8 {
					all = append(all, a.mustInsert(t, i, "x"))
				}
				heardOf(t, a, 2, credit, v(1, 10-lacks))
				want := api.Frame{Kind: api.FrameOps, From: 1, To: 2, Credit: 8, Have: v(1, 10)}
				if lacks > 0 {
					want.Num = 1
					n := min(lacks, push, max(1, credit))
					want.Ops = all[8-lacks : 8-lacks+n]
				}
				wantFrame(t, a.mustDraw(t, 2), want)
				if p := a.talkWith(t, 2); p.Credit != credit || (p.Gap == 2) != (lacks > 0) || len(p.Flight) != want.Num {
					t.Errorf("%+v", p)
				}
			}
		}
	}
}

// TestCreditAtFirst: P18.5: a peer that was not heard of has as much credit as Push says; hearing of it tells what it has.
func TestCreditAtFirst(t *testing.T) {
	a := found(t, 1, c)
	a.mustJoin(t, 2)
	a.mustDraw(t, 2)
	if p := a.r.Sight().Peers; len(p) != 1 || !samePeer(p[0], api.PeerSight{Peer: 2, Flight: []int{1}, Credit: 3, Gap: 2, Due: 2}) {
		t.Errorf("%+v", p)
	}
}

// TestWindow: P18.5, P18.9: as many numbers as the window says are unacknowledged; then the oldest one is used again, for an image too.
func TestWindow(t *testing.T) {
	for _, window := range []int{1, 2, 3, 64} {
		wide := c
		wide.Window = window
		a := found(t, 1, wide)
		a.mustJoin(t, 2)
		a.mustInsert(t, 0, "x")
		for _, heard := range []bool{false, true} {
			if heard {
				heardOf(t, a, 2, 5, v(1, 1))
				if p := a.talkWith(t, 2); len(p.Flight) != window {
					t.Errorf("%+v", p) // it acknowledged nothing
				}
			}
			for i := range 2 * window {
				num := 1
				if !heard && i < window {
					num = i + 1
				}
				if f := decoded(t, a.mustDraw(t, 2)); f.Num != num || (f.Kind == api.FrameImage) == heard {
					t.Errorf("window %d, frame %d: %+v", window, i, f)
				}
			}
		}
	}
}

// TestHeldCredit: P18.5: a frame tells how many places are free.
func TestHeldCredit(t *testing.T) {
	a, _ := pair(t, c)
	for i := range 10 {
		o := api.Op{Dot: api.Dot{Site: 3, Seq: i + 2}, Deps: v(3, i+1), Kind: api.OpJoin, Site: 5}
		a.mustReceive(t, encoded(t, api.Frame{Kind: api.FrameOps, From: 3, To: 1, Have: v(3, 20), Ops: []api.Op{o}}), 0)
		if f := decoded(t, a.mustDraw(t, 2)); f.Credit != max(0, 7-i) {
			t.Errorf("%d wait, credit %d", i+1, f.Credit)
		}
	}
}

// TestTimers: P18.5, P18.6, P18.7: a timer is set by the first frame that wants an acknowledgement, backs off, is set anew by an acknowledgement of some, and is off by one of all.
func TestTimers(t *testing.T) {
	wide := c
	wide.Window = 4
	a, b := pair(t, wide)
	a.mustTick(t, 5)
	wantTimer := func(gap, due int, flight ...int) {
		t.Helper()
		if p := a.talkWith(t, 2); p.Gap != gap || p.Due != due || !slices.Equal(p.Flight, flight) {
			t.Fatalf("%+v; want %d, %d, %v", p, gap, due, flight)
		}
	}
	wantTimer(0, 0)
	a.mustDraw(t, 2) // it lacks nothing: no number, no timer
	wantTimer(0, 0)
	a.mustInsert(t, 0, "x")
	first := a.mustDraw(t, 2)
	wantTimer(2, 7, 2)
	a.mustTick(t, 1)
	second := a.mustDraw(t, 2)
	wantTimer(2, 7, 2, 3) // it runs on
	if out := a.mustTick(t, 1); len(out) != 1 || decoded(t, out[0]).Num != 4 || decoded(t, out[0]).Answer {
		t.Fatalf("%d frames", len(out))
	}
	wantTimer(4, 11, 2, 3, 4)
	a.mustTick(t, 1)
	a.mustInsert(t, 0, "y") // so that the other one lacks something behind the acknowledgement
	a.mustReceive(t, b.mustReceive(t, first, 1)[0], 0)
	wantTimer(2, 10, 3, 4) // set anew, at the tick 8
	a.mustTick(t, 1)
	a.mustReceive(t, b.mustReceive(t, second, 1)[0], 0)
	wantTimer(2, 11, 4)
	// The same once more acknowledges nothing.
	a.mustTick(t, 1)
	a.mustReceive(t, encoded(t, api.Frame{Kind: api.FrameOps, From: 2, To: 1, Got: 3, Answer: true}), 0)
	wantTimer(2, 11, 4)
	if out := a.mustTick(t, 1); len(out) != 1 || decoded(t, out[0]).Num != 5 {
		t.Fatalf("%d frames", len(out))
	}
	wantTimer(4, 15, 4, 5)
	// All are acknowledged, though it lacks something.
	a.mustReceive(t, encoded(t, api.Frame{Kind: api.FrameOps, From: 2, To: 1, Got: 5, Answer: true}), 0)
	wantTimer(0, 0)
	a.mustTick(t, 9)
	a.mustDraw(t, 2)
	wantTimer(2, 22, 6)
	// It lacks nothing, though it acknowledged nothing.
	a.mustReceive(t, encoded(t, api.Frame{Kind: api.FrameOps, From: 2, To: 1, Answer: true, Have: v(1, 4)}), 0)
	wantTimer(0, 0)
	a.mustTick(t, 9)
}

// TestTimersAnswer: P18.7: an answer that wants an acknowledgement sets a timer too; one that acknowledges all is off first, and so set anew.
func TestTimersAnswer(t *testing.T) {
	a, _ := pair(t, c)
	a.mustInsert(t, 0, "x")
	a.mustDraw(t, 2)
	for range 3 {
		a.tick(t)
	}
	if p := a.talkWith(t, 2); p.Gap != 4 || p.Due != 6 || !slices.Equal(p.Flight, []int{2, 3}) {
		t.Fatalf("%+v", p)
	}
	back := a.mustReceive(t, encoded(t, api.Frame{Kind: api.FrameOps, From: 2, To: 1, Got: 3, Credit: 1}), 1)
	if f := decoded(t, back[0]); f.Num != 4 || len(f.Ops) != 1 || !f.Answer {
		t.Errorf("%+v", f)
	}
	if p := a.talkWith(t, 2); p.Gap != 2 || p.Due != 5 || !slices.Equal(p.Flight, []int{4}) {
		t.Errorf("%+v", p)
	}
	// One that acknowledges nothing lets it run on.
	a.mustTick(t, 1)
	a.mustReceive(t, encoded(t, api.Frame{Kind: api.FrameOps, From: 2, To: 1, Got: 3, Credit: 1}), 1)
	if p := a.talkWith(t, 2); p.Gap != 2 || p.Due != 5 || !slices.Equal(p.Flight, []int{4, 5}) {
		t.Errorf("%+v", p)
	}
}

// TestTickOrder: P18.6: what several timers say goes out in the order in which they run out, of one tick by the peers.
func TestTickOrder(t *testing.T) {
	a := found(t, 1, c)
	for _, peer := range []int{5, 3, 16, 2} {
		a.mustJoin(t, peer)
	}
	to := func(out []replica.Out) []int {
		var l []int
		for _, x := range out {
			l = append(l, x.To)
		}
		return l
	}
	for _, peer := range []int{16, 3, 5} {
		a.mustDraw(t, peer)
	}
	a.mustTick(t, 1)
	a.mustDraw(t, 2)
	out, _ := a.tick(t)
	if got := to(out); !slices.Equal(got, []int{3, 5, 16}) {
		t.Errorf("at 2: %v", got)
	}
	out, _ = a.tick(t)
	if got := to(out); !slices.Equal(got, []int{2}) {
		t.Errorf("at 3: %v", got)
	}
	a.mustTick(t, 2)
	// All of them at one tick: those that ran out earlier come first.
	replica.SetTick(a.r, 50)
	a.m.tick = 50
	out, _ = a.tick(t)
	if got := to(out); !slices.Equal(got, []int{3, 5, 16, 2}) {
		t.Errorf("at 51: %v", got)
	}
	for _, p := range a.r.Sight().Peers {
		if p.Gap != 8 || p.Due != 59 {
			t.Errorf("%+v", p)
		}
	}
}

// TestTickHushes: P18.6: a timer of a peer that is no member any more goes off, and what was unacknowledged is forgotten; it talks on with the others.
func TestTickHushes(t *testing.T) {
	for _, heard := range []bool{false, true} {
		a := found(t, 1, c)
		a.mustJoin(t, 2)
		a.mustJoin(t, 3)
		if heard {
			heardOf(t, a, 2, 4, v(1, 2))
		}
		a.mustDraw(t, 2)
		a.mustDraw(t, 3)
		leave := api.Op{Dot: api.Dot{Site: 2, Seq: 1}, Deps: v(1, 2), Kind: api.OpLeave}
		a.mustReceive(t, encoded(t, api.Frame{Kind: api.FrameOps, From: 4, To: 1, Num: 1, Have: v(1, 2, 2, 1), Ops: []api.Op{leave}}), 0)
		if p := a.talkWith(t, 2); p.Gap != 2 || len(p.Flight) != 1 {
			t.Errorf("ahead of the tick: %+v", p)
		}
		a.mustTick(t, 1)
		out, _ := a.tick(t)
		if len(out) != 1 || out[0].To != 3 {
			t.Errorf("%s", words(out))
		}
		if p := a.talkWith(t, 2); p.Gap != 0 || p.Due != 0 || len(p.Flight) != 0 || p.Heard != heard {
			t.Errorf("%+v", p)
		}
		a.mustTick(t, 3)
		_, err := a.draw(t, 2)
		wantErr(t, "one that left", err, api.ErrArg)
	}
}

// TestTickUnheard: P18.6: a member that was never heard of lacks the image, even where the log has nothing.
func TestTickUnheard(t *testing.T) {
	i := sparse(3, 7)
	i.Joined, i.Epoch = []int{1, 2, 3}, 3
	b := woken(t, c, i)
	b.mustDraw(t, 3)
	b.mustDraw(t, 1)
	for _, num := range []int{2, 1} {
		out, err := b.tick(t)
		for err == api.OK && len(out) == 0 {
			out, err = b.tick(t)
		}
		if f := decoded(t, out[0].Data); len(out) != 1 || f.To != 3 || f.Kind != api.FrameImage || f.Num != num {
			t.Errorf("%s", words(out))
		}
	}
	if s := b.r.Sight(); s.Tick != 6 || s.Log != 0 {
		t.Errorf("%+v", s)
	}
}

// TestTickFull: P18.6, W3: ticks come to their end; timers are set all the same.
func TestTickFull(t *testing.T) {
	const last = 1<<31 - 1
	a, b := pair(t, c)
	zero := both{&replica.Replica{}, newModel(0, api.Config{})}
	for _, x := range []both{a, b, idle(t, 3, c), zero} {
		replica.SetTick(x.r, last-2)
		x.m.tick = last - 2
		x.mustTick(t, 1)
		if x.m == a.m {
			a.mustInsert(t, 0, "x")
			a.mustDraw(t, 2)
			a.mustTick(t, 1)
			a.mustDraw(t, 2)
		} else {
			x.mustTick(t, 1)
		}
		for range 3 {
			out, err := x.tick(t)
			wantErr(t, "behind the last tick", err, api.ErrFull)
			if len(out) > 0 || x.r.Sight().Tick != last {
				t.Errorf("%d frames", len(out))
			}
		}
	}
	if p := a.talkWith(t, 2); p.Gap != 2 || p.Due != last+1 {
		t.Errorf("%+v", p)
	}
	b.mustInsert(t, 0, "y")
	b.mustDraw(t, 1)
	if p := b.talkWith(t, 1); p.Gap != 2 || p.Due != last+2 {
		t.Errorf("%+v", p)
	}

	// A timer that runs out at the last tick speaks.
	x, _ := pair(t, c)
	x.mustInsert(t, 0, "x")
	replica.SetTick(x.r, last-2)
	x.m.tick = last - 2
	x.mustDraw(t, 2)
	if out := x.mustTick(t, 2); len(out) != 1 {
		t.Errorf("%d frames", len(out))
	}
	if p := x.talkWith(t, 2); p.Gap != 4 || p.Due != last+4 {
		t.Errorf("%+v", p)
	}
}

// TestSight: P18.9: whoever was talked with or heard of stands there once, rising, whether a member or not.
func TestSight(t *testing.T) {
	a := found(t, 4, c)
	for _, peer := range []int{9, 2} {
		a.mustJoin(t, peer)
	}
	a.mustDraw(t, 9)
	for _, peer := range []int{16, 3, 2} {
		a.receive(t, encoded(t, api.Frame{Kind: api.FrameOps, From: peer, To: 4, Num: 7, Credit: 5, Answer: true, Have: v(4, 1, peer, 3)}))
	}
	want := []api.PeerSight{
		{Peer: 2, Heard: true, Row: v(2, 3, 4, 1), Got: 7, Credit: 5},
		{Peer: 3, Heard: true, Row: v(3, 3, 4, 1), Got: 7, Credit: 5},
		{Peer: 9, Flight: []int{1}, Credit: 3, Gap: 2, Due: 2},
		{Peer: 16, Heard: true, Row: v(4, 1, 16, 3), Got: 7, Credit: 5},
	}
	if got := a.r.Sight().Peers; !slices.EqualFunc(got, want, samePeer) {
		t.Errorf("%+v", got)
	}
}

// TestAt: P18.8, W1: At and Find of all numbers are the document's.
func TestAt(t *testing.T) {
	a := found(t, 1, c)
	a.mustInsert(t, 0, "héy")
	a.mustDelete(t, 1, 1)
	for _, i := range edges {
		id, err := a.r.At(i)
		switch i {
		case 0, 1:
			wantErr(t, i, err, api.OK)
			if id != (api.ID{Time: 1 + 2*i, Site: 1}) {
				t.Errorf("At(%d): %v", i, id)
			}
		default:
			wantErr(t, i, err, api.ErrIndex)
			if id != (api.ID{}) {
				t.Errorf("At(%d): %v", i, id)
			}
		}
		for _, site := range []int{math.MinInt, 0, 1, 2, 17} {
			ahead, state := a.r.Find(api.ID{Time: i, Site: site})
			if wantAhead, wantState := a.m.find(api.ID{Time: i, Site: site}); ahead != wantAhead || state != wantState {
				t.Errorf("Find(%d %d): %d, %d", i, site, ahead, state)
			}
		}
	}
	if ahead, state := a.r.Find(api.ID{Time: 2, Site: 1}); ahead != 1 || state != api.StateDeleted {
		t.Errorf("%d, %d", ahead, state)
	}
}
