package replica_test

import (
	"fmt"
	"math/rand"
	"slices"
	"testing"

	"hearsay/api"
	"hearsay/frame"
)

// kinds is an idle, an active and a leaving one, all of them the site 2, and frames to them that may be: an image, and operations.
func kinds(t *testing.T) (all map[string]both, frames map[string][]byte) {
	t.Helper()
	a, active := pair(t, c)
	_, leaving := pair(t, c)
	leaving.mustLeave(t)
	a.mustInsert(t, 0, "hé")
	ops := a.mustDraw(t, 2)
	fresh := found(t, 1, c)
	fresh.mustJoin(t, 2)
	fresh.mustInsert(t, 0, "hé")
	return map[string]both{"idle": idle(t, 2, c), "active": active, "leaving": leaving}, map[string][]byte{"image": fresh.mustDraw(t, 2), "ops": ops}
}

// TestAnyBytes: P18.7, P0.7, P0.9, W1, W3: bytes that are no frame, altered ones, and such that were cut off or have something behind them, are refused as chapter 10 says, and change nothing.
func TestAnyBytes(t *testing.T) {
	rng := rand.New(rand.NewSource(18))
	all, frames := kinds(t)
	wantRefused := func(data []byte) {
		t.Helper()
		for _, b := range all {
			_, want := frame.Decode(data)
			out, err := b.receive(t, data)
			if want == api.OK || err != want || len(out) > 0 {
				t.Fatalf("% x: error %d; want %d", data, int(err), int(want))
			}
		}
	}
	wantRefused(nil)
	for n := range 40 {
		data := make([]byte, n)
		wantRefused(data)
		rng.Read(data)
		wantRefused(data)
	}
	for range 300 {
		// Such that sum up, but say nothing, or something else.
		body := make([]byte, rng.Intn(12))
		rng.Read(body)
		if len(body) > 2 && rng.Intn(2) == 0 {
			copy(body, []byte{byte(1 + rng.Intn(2)), 1, 2})
		}
		data := summed(body)
		if _, err := frame.Decode(data); err != api.OK {
			wantRefused(data)
		}
	}
	for _, data := range frames {
		for i := range data {
			wantRefused(data[:i])
			altered := slices.Clone(data)
			altered[i] ^= byte(1 + rng.Intn(255))
			wantRefused(altered)
			for k := i; k < min(i+4, len(data)); k++ {
				altered[k] ^= byte(rng.Intn(256))
			}
			if !slices.Equal(altered, data) {
				wantRefused(altered)
			}
		}
		wantRefused(append(slices.Clone(data), 0))
		wantRefused(append(slices.Clone(data), data...))
	}
}

// TestReceiveErrors: P18.7, W3, W4: the errors in their order, two and more at once.
func TestReceiveErrors(t *testing.T) {
	all, frames := kinds(t)
	turn := func(kind string, change func(f *api.Frame)) []byte {
		f := decoded(t, frames[kind])
		change(&f)
		return encoded(t, f)
	}
	toOther := func(f *api.Frame) { f.To = 3 }
	fromThis := func(f *api.Frame) { f.From, f.To = 2, 1 }
	noMember := func(f *api.Frame) { f.Image.Joined, f.Image.Epoch = []int{1}, 1 }
	// Decode's error comes ahead of all: a copy that was altered, for another site.
	altered := turn("ops", toOther)
	altered[7] ^= 1
	for name, b := range all {
		for kind := range frames {
			for i, change := range []func(*api.Frame){toOther, fromThis, func(f *api.Frame) {
				if kind == "image" {
					noMember(f)
				}
				toOther(f)
			}} {
				_, err := b.receive(t, turn(kind, change))
				wantErr(t, fmt.Sprint(name, " ", kind, " ", i), err, api.ErrSite)
			}
		}
		_, err := b.receive(t, altered)
		wantErr(t, name, err, api.ErrSum)
	}
	_, err := all["idle"].receive(t, frames["ops"])
	wantErr(t, "operations for an idle one", err, api.ErrIdle)
	_, err = all["idle"].receive(t, turn("image", noMember))
	wantErr(t, "an image without it", err, api.ErrSite)
	_, err = all["leaving"].receive(t, turn("image", noMember))
	wantErr(t, "the same for a leaving one", err, api.OK)
	_, err = all["active"].receive(t, turn("image", noMember))
	wantErr(t, "the same for an active one", err, api.OK)
	_, err = all["leaving"].receive(t, frames["ops"])
	wantErr(t, "operations for a leaving one", err, api.OK)
	_, err = all["active"].receive(t, frames["ops"])
	wantErr(t, "operations for an active one", err, api.OK)
	_, err = all["idle"].receive(t, frames["image"])
	wantErr(t, "an image for an idle one", err, api.OK)
	_, err = all["idle"].receive(t, frames["ops"])
	wantErr(t, "operations for one that was idle", err, api.OK)
}

// TestMembersByImage: P18.7: an idle one takes in just the images by which it is a member.
func TestMembersByImage(t *testing.T) {
	for _, x := range []struct {
		joined, left []int
		epoch        int
		want         api.Errno
	}{
		{nil, nil, 0, api.ErrSite},
		{[]int{1}, nil, 1, api.ErrSite},
		{[]int{2}, nil, 1, api.OK},
		{[]int{1, 2}, nil, 2, api.OK},
		{[]int{1, 3}, nil, 2, api.ErrSite},
		{[]int{1, 2}, []int{2}, 1, api.ErrSite},
		{[]int{1, 2}, []int{2}, 3, api.ErrSite},
		{[]int{1}, []int{2}, 1, api.ErrSite},
		{[]int{1, 2}, []int{1}, 1, api.OK},
		{[]int{1, 2}, []int{1, 3}, 3, api.OK},
		{nil, []int{2}, 0, api.ErrSite},
		{[]int{2, 16}, []int{1, 16}, 1, api.OK},
	} {
		b := idle(t, 2, c)
		i := api.Image{Joined: x.joined, Left: x.left, Epoch: x.epoch}
		_, err := b.receive(t, encoded(t, api.Frame{Kind: api.FrameImage, From: 9, To: 2, Num: 3, Image: i}))
		wantErr(t, fmt.Sprint(x), err, x.want)
		if x.want != api.OK {
			i = api.Image{}
		}
		if got := b.r.Image(); !sameImage(got, i) || b.r.Sight().Active != (x.want == api.OK) {
			t.Errorf("%+v: %+v", x, got)
		}
	}
}

// opsFrom is a frame of operations from 3 to 1, which is no answer and has no number.
func opsFrom(t *testing.T, have api.Vector, ops ...api.Op) []byte {
	t.Helper()
	return encoded(t, api.Frame{Kind: api.FrameOps, From: 3, To: 1, Have: have, Ops: ops})
}

// lays is an insert of the site 3, one rune, behind the beginning.
func lays(seq int, deps api.Vector, time int, text string) api.Op {
	return api.Op{Dot: api.Dot{Site: 3, Seq: seq}, Deps: deps, Kind: api.OpInsert, ID: api.ID{Time: time, Site: 3}, Text: text}
}

// TestOrderOfArrival: P18.7, P18.13: operations that come in each order, twice, and one by one, lead to the same; what comes too early waits.
func TestOrderOfArrival(t *testing.T) {
	ops := []api.Op{lays(1, v(1, 1), 1, "a"), lays(2, v(1, 1, 3, 1), 2, "b"), lays(3, v(1, 1, 3, 2), 3, "c"), lays(4, v(1, 1, 3, 3), 4, "d")}
	permute(4, func(order []int) {
		one, all := found(t, 1, c), found(t, 1, c)
		var frame []api.Op
		for n, i := range order {
			frame = append(frame, ops[i], ops[i])
			for range 2 {
				one.mustReceive(t, opsFrom(t, v(3, 4), ops[i]), 0)
			}
			there := 0
			for slices.Contains(order[:n+1], there) {
				there++
			}
			one.wantText(t, "dcba"[4-there:])
			if s := one.r.Sight(); len(s.Held) != n+1-there {
				t.Fatalf("%v: %+v", order[:n+1], s.Held)
			}
		}
		all.mustReceive(t, opsFrom(t, v(3, 4), frame...), 0)
		for _, b := range []both{one, all} {
			b.wantText(t, "dcba")
			if s := b.r.Sight(); len(s.Held) != 0 || s.Clock != 4 || s.Log != 5 || !slices.Equal(s.Vector, v(1, 1, 3, 4)) {
				t.Fatalf("%+v", s)
			}
		}
	})
}

// permute goes through all orders of the numbers below n.
func permute(n int, do func([]int)) {
	var rec func(head, rest []int)
	rec = func(head, rest []int) {
		if len(rest) == 0 {
			do(head)
		}
		for i := range rest {
			rec(append(slices.Clone(head), rest[i]), slices.Delete(slices.Clone(rest), i, i+1))
		}
	}
	var all []int
	for i := range n {
		all = append(all, i)
	}
	rec(nil, all)
}

// TestHold: P18.7, P0.5: no more wait than Hold says, and the farthest are dropped.
func TestHold(t *testing.T) {
	for _, hold := range []int{0, 1, 2, 5, 256} {
		few := c
		few.Hold = hold
		a := found(t, 1, few)
		for seq := 300; seq > 1; seq-- {
			if hold == 256 && seq%16 > 0 {
				a.r.Receive(opsFrom(t, v(3, 300), lays(seq, v(1, 1, 3, seq-1), seq, "x")))
				a.m.receive(opsFrom(t, v(3, 300), lays(seq, v(1, 1, 3, seq-1), seq, "x")))
				continue // so many are held against each other now and then alone
			}
			a.mustReceive(t, opsFrom(t, v(3, 300), lays(seq, v(1, 1, 3, seq-1), seq, "x")), 0)
		}
		if held := a.r.Sight().Held; len(held) != hold || hold > 0 && (held[0].Seq != 2 || held[hold-1].Seq != hold+1) {
			t.Errorf("Hold %d: %v", hold, held)
		}
		a.mustReceive(t, opsFrom(t, v(3, 300), lays(1, v(1, 1), 1, "x")), 0)
		if s := a.r.Sight(); len(s.Held) != 0 || !slices.Equal(s.Vector, v(1, 1, 3, hold+1)) || a.r.Len() != hold+1 {
			t.Errorf("Hold %d: %+v", hold, s)
		}
	}
}

// TestRefusedInsert: P18.7, P18.10: an insert that the document refuses is delivered, without effect: the log has it, the clock is not behind it, and others can come behind it.
func TestRefusedInsert(t *testing.T) {
	there := api.ID{Time: 1, Site: 1}
	for _, o := range []api.Op{
		{Dot: api.Dot{Site: 3, Seq: 1}, Kind: api.OpInsert, ID: api.ID{Time: 9, Site: 3}, Ref: api.ID{Time: 8, Site: 1}, Text: "qr"}, // no such ref
		{Dot: api.Dot{Site: 3, Seq: 1}, Kind: api.OpInsert, ID: api.ID{Time: 2, Site: 3}, Ref: there, Text: "qr"},                    // 3.3 is there already
	} {
		a := found(t, 1, c)
		a.mustInsert(t, 0, "hey")
		a.mustReceive(t, encoded(t, api.Frame{Kind: api.FrameOps, From: 2, To: 1, Ops: []api.Op{{Dot: api.Dot{Site: 2, Seq: 1}, Deps: v(1, 2), Kind: api.OpInsert, ID: api.ID{Time: 4, Site: 2}, Ref: there, Text: "x"}}}), 0)
		if o.ID.Time == 2 {
			two := api.Op{Dot: api.Dot{Site: 3, Seq: 1}, Kind: api.OpInsert, ID: api.ID{Time: 3, Site: 3}, Text: "z"}
			a.mustReceive(t, opsFrom(t, nil, two), 0)
			o.Dot.Seq, o.Deps = 2, v(3, 1)
		}
		was := a.r.Sight()
		text := a.r.Text()
		next := api.Op{Dot: api.Dot{Site: 3, Seq: o.Dot.Seq + 1}, Deps: v(3, o.Dot.Seq), Kind: api.OpJoin, Site: 7}
		a.mustReceive(t, opsFrom(t, nil, o, next), 0)
		a.wantText(t, text)
		s := a.r.Sight()
		if s.Kept != was.Kept || s.Log != was.Log+2 || s.Clock != max(was.Clock, lastOf(o)) || !slices.Contains(s.Members, 7) {
			t.Errorf("%+v", s)
		}
		a.mustInsert(t, 0, "!")
		// It goes on to others as it came.
		a.mustJoin(t, 9)
		heardOf(t, a, 9, 3, v(1, 5, 2, 1, 3, o.Dot.Seq-1))
		if f := decoded(t, a.mustDraw(t, 9)); len(f.Ops) < 2 || !sameOp(f.Ops[0], o) || !sameOp(f.Ops[1], next) {
			t.Errorf("%+v", f.Ops)
		}
	}
}

// TestOwnNumbers: P18.2, P18.10: a hand-made frame brings operations that bear this site's numbers. One that can be delivered is; one that waits gives way to what the site itself issues under that number, and what waits for it goes on.
func TestOwnNumbers(t *testing.T) {
	mine := func(seq int, deps api.Vector) api.Op {
		return api.Op{Dot: api.Dot{Site: 1, Seq: seq}, Deps: deps, Kind: api.OpInsert, ID: api.ID{Time: 70 + seq, Site: 1}, Text: "?"}
	}
	a := found(t, 1, c)
	a.mustInsert(t, 0, "a")
	a.mustReceive(t, opsFrom(t, nil, mine(3, v(1, 2))), 0)
	a.wantText(t, "?a")
	if o := a.mustInsert(t, 2, "b"); o.Dot.Seq != 4 || o.ID.Time != 74 || !slices.Equal(o.Deps, v(1, 3)) {
		t.Errorf("%+v", o)
	}

	// 1.5 waits for 4.1; 2.1 waits for 1.5; 3.2 for 3.1; and 1.6 for 1.5.
	waits := []api.Op{
		{Dot: api.Dot{Site: 3, Seq: 2}, Deps: v(3, 1), Kind: api.OpJoin, Site: 13},
		mine(5, v(1, 4, 4, 1)),
		{Dot: api.Dot{Site: 2, Seq: 1}, Deps: v(1, 5), Kind: api.OpJoin, Site: 12},
		mine(6, v(1, 5)),
		{Dot: api.Dot{Site: 5, Seq: 1}, Deps: v(1, 6), Kind: api.OpJoin, Site: 14},
	}
	a.mustReceive(t, opsFrom(t, nil, waits...), 0)
	if s := a.r.Sight(); len(s.Held) != 5 || a.r.Text() != "?ab" {
		t.Fatalf("%+v", s)
	}
	o := a.mustInsert(t, 3, "c")
	if o.Dot != (api.Dot{Site: 1, Seq: 5}) || !slices.Equal(o.Deps, v(1, 4)) || o.Text != "c" {
		t.Errorf("%+v", o)
	}
	a.wantText(t, "??abc")
	s := a.r.Sight()
	if !slices.Equal(s.Vector, v(1, 6, 2, 1, 5, 1)) || !slices.Equal(s.Held, []api.Dot{{Site: 3, Seq: 2}}) || !slices.Equal(s.Members, []int{1, 12, 14}) {
		t.Errorf("%+v", s)
	}
	var dots []api.Dot
	for _, o := range a.r.Image().Log[4:] {
		dots = append(dots, o.Dot)
	}
	if !slices.Equal(dots, []api.Dot{{Site: 1, Seq: 5}, {Site: 2, Seq: 1}, {Site: 1, Seq: 6}, {Site: 5, Seq: 1}}) {
		t.Errorf("%v", dots)
	}
	// What still waits comes when it can.
	a.mustReceive(t, opsFrom(t, nil, api.Op{Dot: api.Dot{Site: 3, Seq: 1}, Kind: api.OpJoin, Site: 11}), 0)
	if s := a.r.Sight(); len(s.Held) != 0 || !slices.Equal(s.Members, []int{1, 11, 12, 13, 14}) {
		t.Errorf("%+v", s)
	}

	// The same with each kind of edit, with no room but for one.
	few := c
	few.Hold = 1
	for i, edit := range []func(b both) (api.Op, api.Errno){
		func(b both) (api.Op, api.Errno) { return b.insert(t, 0, "x") },
		func(b both) (api.Op, api.Errno) { return b.delete(t, 0, 1) },
		func(b both) (api.Op, api.Errno) { return b.join(t, 9) },
		func(b both) (api.Op, api.Errno) { return b.leave(t) },
	} {
		b := found(t, 1, few)
		b.mustInsert(t, 0, "a")
		b.mustReceive(t, opsFrom(t, nil, mine(3, v(1, 2, 4, 1))), 0)
		if s := b.r.Sight(); len(s.Held) != 1 {
			t.Errorf("%+v", s)
		}
		o, err := edit(b)
		wantErr(t, i, err, api.OK)
		if s := b.r.Sight(); len(s.Held) != 0 || o.Dot.Seq != 3 || !slices.Equal(s.Vector, v(1, 3)) || s.Log != 3 {
			t.Errorf("%d: %+v", i, s)
		}
		// Its place is free again.
		b.mustReceive(t, opsFrom(t, nil, lays(2, v(3, 1), 1, "y")), 0)
	}
}

// TestLeftByOthers: P18.7: an OpLeave that bears this site's number makes it leave; what stands behind it in the frame is not offered any more, but what the queue gives is delivered.
func TestLeftByOthers(t *testing.T) {
	a := found(t, 1, c)
	a.mustInsert(t, 0, "a")
	late := api.Op{Dot: api.Dot{Site: 2, Seq: 1}, Deps: v(1, 3), Kind: api.OpInsert, ID: api.ID{Time: 5, Site: 2}, Text: "late"}
	a.mustReceive(t, opsFrom(t, nil, late), 0)
	leave := api.Op{Dot: api.Dot{Site: 1, Seq: 3}, Deps: v(1, 2), Kind: api.OpLeave}
	a.mustReceive(t, opsFrom(t, v(3, 1), leave, lays(1, nil, 9, "never")), 0)
	a.wantText(t, "latea")
	if s := a.r.Sight(); !s.Leaving || !slices.Equal(s.Vector, v(1, 3, 2, 1)) || len(s.Members) != 0 || len(s.Held) != 0 {
		t.Errorf("%+v", s)
	}
	_, err := a.insert(t, 0, "x")
	wantErr(t, "Insert", err, api.ErrLeft)
	// Another one's leave that comes with its own does not let it stay.
	d := found(t, 1, c)
	d.mustReceive(t, opsFrom(t, nil, api.Op{Dot: api.Dot{Site: 2, Seq: 1}, Deps: v(1, 2), Kind: api.OpLeave}), 0)
	d.mustLeave(t)
	if s := d.r.Sight(); !s.Leaving || !slices.Equal(s.Vector, v(1, 2, 2, 1)) {
		t.Errorf("%+v", s)
	}
	// What others issued is no matter of this one's leaving.
	b := found(t, 1, c)
	b.mustReceive(t, opsFrom(t, nil, api.Op{Dot: api.Dot{Site: 3, Seq: 1}, Kind: api.OpLeave}, lays(2, v(3, 1), 9, "x")), 0)
	b.wantText(t, "x")
	if s := b.r.Sight(); s.Leaving {
		t.Errorf("%+v", s)
	}
}

// TestAnswers: P18.7: when an answer goes out, and what it says: for a member that did not answer itself, and that lacks something or wants an acknowledgement.
func TestAnswers(t *testing.T) {
	spoken := 0
	for _, answer := range []bool{false, true} {
		for _, from := range []int{2, 3, 4} { // a member; one that left; one that nobody let in
			for _, lacks := range []bool{false, true} {
				for _, num := range []int{0, 1, 7, api.MaxNum} {
					for _, image := range []bool{false, true} {
						a := found(t, 1, c)
						a.mustJoin(t, 2)
						a.mustJoin(t, 3)
						a.mustReceive(t, encoded(t, api.Frame{Kind: api.FrameOps, From: 3, To: 1, Have: v(1, 3), Ops: []api.Op{{Dot: api.Dot{Site: 3, Seq: 1}, Kind: api.OpLeave}}}), 0)
						f := api.Frame{Kind: api.FrameOps, From: from, To: 1, Num: num, Credit: 2, Answer: answer, Have: v(1, 3, 3, 1)}
						if lacks {
							f.Have = v(1, 2, 3, 1)
						}
						if image {
							f.Kind, f.Image = api.FrameImage, api.Image{Vector: f.Have, Base: f.Have}
						}
						if answer || from != 2 || !lacks && num == 0 {
							a.mustReceive(t, encoded(t, f), 0)
							continue
						}
						spoken++
						want := api.Frame{Kind: api.FrameOps, From: 1, To: 2, Got: num, Credit: 8, Answer: true, Have: v(1, 3, 3, 1)}
						if lacks {
							want.Num = 1
							want.Ops = []api.Op{{Dot: api.Dot{Site: 1, Seq: 3}, Deps: v(1, 2), Kind: api.OpJoin, Site: 3}}
						}
						wantFrame(t, a.mustReceive(t, encoded(t, f), 1)[0], want)
					}
				}
			}
		}
	}
	if spoken != 2*7 {
		t.Errorf("%d answers", spoken)
	}
}

// TestFourThings: P18.7: the four things in their order.
func TestFourThings(t *testing.T) {
	// The row is heard ahead of the operations: what a frame brings its sender has.
	a, b := pair(t, c)
	b.mustInsert(t, 0, "x")
	said := b.mustDraw(t, 1)
	if f := decoded(t, a.mustReceive(t, said, 1)[0]); len(f.Ops) != 0 || f.Num != 0 || f.Got != 1 {
		t.Errorf("%+v", f)
	}
	// A frame that lets its sender in, is answered to a member.
	join := api.Op{Dot: api.Dot{Site: 2, Seq: 2}, Deps: v(1, 2, 2, 1), Kind: api.OpJoin, Site: 3}
	back := a.mustReceive(t, encoded(t, api.Frame{Kind: api.FrameOps, From: 3, To: 1, Num: 1, Credit: 2, Have: v(1, 2, 2, 2), Ops: []api.Op{join}}), 1)
	if f := decoded(t, back[0]); f.To != 3 || f.Kind != api.FrameOps {
		t.Errorf("%+v", f)
	}
	// One that brings its sender's leave is not.
	leave := api.Op{Dot: api.Dot{Site: 3, Seq: 1}, Deps: v(1, 2, 2, 2), Kind: api.OpLeave}
	a.mustReceive(t, encoded(t, api.Frame{Kind: api.FrameOps, From: 3, To: 1, Num: 2, Credit: 2, Have: v(1, 2, 2, 2, 3, 1), Ops: []api.Op{leave}}), 0)

	// Whether the sender lacks something is asked ahead of tidying up: the log is cut then, as the sender is no member any more.
	none := c
	none.Keep = 0
	d := found(t, 1, none)
	d.mustJoin(t, 3)
	d.mustDraw(t, 3)
	leave.Deps = v(1, 2)
	d.mustReceive(t, encoded(t, api.Frame{Kind: api.FrameOps, From: 3, To: 1, Num: 2, Have: v(1, 1, 3, 1), Ops: []api.Op{leave}}), 0)
	if p, s := d.talkWith(t, 3), d.r.Sight(); p.Gap != 2 || !slices.Equal(p.Flight, []int{1}) || s.Log != 0 || !slices.Equal(s.Base, v(1, 2, 3, 1)) {
		t.Errorf("%+v, %+v", p, s)
	}
	// And the rows count that are covered once the operations are there.
	if p := d.talkWith(t, 3); !slices.Equal(p.Usable, v(1, 1, 3, 1)) {
		t.Errorf("%+v", p)
	}

	// A leaving one takes in no operation, but its talk is cleared as soon as the other one lacks nothing.
	e, _ := pair(t, c)
	e.mustLeave(t)
	e.mustDraw(t, 2)
	e.mustReceive(t, encoded(t, api.Frame{Kind: api.FrameOps, From: 2, To: 1, Answer: true, Have: v(1, 3)}), 0)
	if p := e.talkWith(t, 2); p.Gap != 0 || len(p.Flight) != 0 {
		t.Errorf("%+v", p)
	}
}

// TestImageForActive: P18.7: an active one takes in of an image what its log brings, and nothing else.
func TestImageForActive(t *testing.T) {
	a, b := pair(t, c)
	a.mustInsert(t, 0, "hey")
	i := a.r.Image()
	i.Nodes[1].State = api.StateDeleted
	i.Joined, i.Epoch = []int{1, 2, 7}, 3
	i.Clock = 99
	back := b.mustReceive(t, encoded(t, api.Frame{Kind: api.FrameImage, From: 1, To: 2, Num: 5, Have: i.Vector, Image: i}), 1)
	b.wantText(t, "hey")
	if s := b.r.Sight(); s.Clock != 3 || !slices.Equal(s.Members, []int{1, 2}) || !slices.Equal(s.Vector, v(1, 3)) {
		t.Errorf("%+v", s)
	}
	wantFrame(t, back[0], api.Frame{Kind: api.FrameOps, From: 2, To: 1, Got: 5, Credit: 8, Answer: true, Have: v(1, 3)})
	// Without a log behind its base it brings nothing but what its sender has.
	i = api.Image{Vector: v(1, 9), Base: v(1, 9)}
	b.mustReceive(t, encoded(t, api.Frame{Kind: api.FrameImage, From: 1, To: 2, Have: i.Vector, Image: i}), 0)
	b.wantText(t, "hey")
	if p := b.talkWith(t, 1); !slices.Equal(p.Row, v(1, 9)) || !slices.Equal(p.Usable, v(1, 3)) {
		t.Errorf("%+v", p)
	}
}
