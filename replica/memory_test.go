package replica_test

import (
	"bytes"
	"runtime"
	"slices"
	"strings"
	"testing"
	"unsafe"

	"hearsay/api"
	"hearsay/replica"
)

// rich is a site that has something of everything.
func rich(t *testing.T) both {
	t.Helper()
	a, b := pair(t, c)
	a.mustInsert(t, 0, "héy")
	a.mustDelete(t, 1, 1)
	a.mustJoin(t, 5)
	tell(t, a, b)
	a.mustInsert(t, 0, "x")
	a.mustDraw(t, 2)
	a.mustDraw(t, 5)
	a.mustReceive(t, opsFrom(t, v(3, 4), lays(4, v(1, 1, 3, 3), 9, "late"), lays(2, v(3, 1), 9, "later")), 0)
	return a
}

// TestAnswersApart: P18.14, W6: no two answers share anything, and none shares anything with what the replica keeps; nor does what was answered earlier go on with it.
func TestAnswersApart(t *testing.T) {
	a := rich(t)
	sights, images := []api.Sight{a.r.Sight(), a.r.Sight(), a.r.Sight()}, []api.Image{a.r.Image(), a.r.Image(), a.r.Image()}
	sight, image := a.m.sight(), a.m.image()
	for i := range sights {
		for k := i; k < len(sights); k++ {
			if !sameSight(sights[k], sight) || !sameImage(images[k], image) {
				t.Fatalf("%d behind spoiling %d", k, i-1)
			}
		}
		spoilSight(sights[i])
		spoilImage(images[i])
		a.want(t)
	}

	// What was answered stays as it was, whatever comes.
	earlier, earlierImage := a.r.Sight(), a.r.Image()
	op, _ := a.r.Insert(1, "new")
	a.m.insert(1, "new")
	out, _ := a.r.Draw(2)
	a.m.draw(2)
	was, wasOut := cloneOp(op), cloneOuts(out)
	for range 5 {
		a.mustInsert(t, 0, "on")
		a.mustDelete(t, 1, 2)
		a.tick(t)
		a.mustDraw(t, 2)
		heardOf(t, a, 2, 4, a.r.Sight().Vector)
	}
	if !sameSight(earlier, sight) || !sameImage(earlierImage, image) || !sameOp(op, was) || !sameOuts(out, wasOut) {
		t.Error("an earlier answer changed")
	}
	// What is laid behind the end of an answer is nowhere to be seen.
	s, i := a.r.Sight(), a.r.Image()
	spoil(append(s.Vector, api.Dot{}), api.Dot{Site: 3, Seq: 3})
	spoil(append(s.Members, 0), 3)
	spoil(append(i.Nodes, api.Node{}), api.Node{State: 3})
	spoil(append(i.Log, api.Op{}), api.Op{Kind: 3})
	spoil(append(op.Deps, api.Dot{}), api.Dot{Site: 3, Seq: 3})
	a.want(t)
	a.mustInsert(t, 0, "on")
}

// TestListsApart: W6: no two lists of one answer share anything, not even their room.
func TestListsApart(t *testing.T) {
	a := rich(t)
	i := a.r.Image()
	want := a.m.image()
	spoil(i.Vector, api.Dot{Site: -1})
	if !slices.Equal(i.Base, want.Base) || !slices.EqualFunc(i.Log, want.Log, sameOp) {
		t.Error("the vector is shared")
	}
	for k := range i.Log {
		spoilOp(i.Log[k])
		for n := k + 1; n < len(i.Log); n++ {
			if !sameOp(i.Log[n], want.Log[n]) {
				t.Fatalf("%d shares with %d", n, k)
			}
		}
	}
	spoil(i.Joined, -1)
	if !slices.Equal(i.Left, want.Left) {
		t.Error("the joined ones are shared")
	}
	s := a.r.Sight()
	wantSight := a.m.sight()
	spoil(s.Vector, api.Dot{Site: -1})
	spoil(s.Held, api.Dot{Site: -1})
	spoil(s.Members, -1)
	if !slices.Equal(s.Base, wantSight.Base) || !slices.EqualFunc(s.Peers, wantSight.Peers, samePeer) {
		t.Error("the vector is shared")
	}
	for k := range s.Peers {
		spoil(s.Peers[k].Row, api.Dot{Site: -1})
		if !slices.Equal(s.Peers[k].Usable, wantSight.Peers[k].Usable) {
			t.Error("row and usable row are one")
		}
		spoil(s.Peers[k].Usable, api.Dot{Site: -1})
		spoil(s.Peers[k].Flight, -1)
		for n := k + 1; n < len(s.Peers); n++ {
			if !samePeer(s.Peers[n], wantSight.Peers[n]) {
				t.Fatalf("%d shares with %d", n, k)
			}
		}
	}
	a.want(t)
}

// TestTextsApart: P18.14: the texts of what is handed in, kept and answered are in memory of their own.
func TestTextsApart(t *testing.T) {
	a := found(t, 1, c)
	a.mustJoin(t, 2)
	given := strings.Repeat("text", 4)
	o, err := a.r.Insert(0, given[2:9])
	wantErr(t, "Insert", err, api.OK)
	a.m.insert(0, given[2:9])
	a.want(t)
	texts := []string{given[2:9], o.Text, a.r.Image().Log[2].Text, a.r.Image().Log[2].Text, a.r.Text(), a.r.Text()}
	for i, s := range texts {
		for k, other := range texts[:i] {
			if unsafe.StringData(s) == unsafe.StringData(other) {
				t.Errorf("%d and %d are one", i, k)
			}
		}
	}
}

// TestGivenApart: P18.14, W6: changing what was handed in, at once or later, changes nothing.
func TestGivenApart(t *testing.T) {
	a, b := pair(t, c)
	a.mustInsert(t, 0, "héy")
	a.mustDelete(t, 0, 1)
	ops := a.mustDraw(t, 2)
	fresh := idle(t, 2, c)
	image := found(t, 1, c)
	image.mustJoin(t, 2)
	image.mustInsert(t, 0, "image")
	late := encoded(t, api.Frame{Kind: api.FrameOps, From: 3, To: 2, Have: v(3, 9), Ops: []api.Op{lays(2, v(3, 1), 9, "later")}})
	for _, x := range []struct {
		b    both
		data []byte
	}{{b, ops}, {b, late}, {fresh, image.mustDraw(t, 2)}, {fresh, late}} {
		given := append(bytes.Clone(x.data), 1, 2, 3)
		was := bytes.Clone(given)
		out, err := x.b.r.Receive(given[:len(x.data)])
		wantErr(t, "Receive", err, api.OK)
		if !bytes.Equal(given, was) {
			t.Error("what was handed in changed")
		}
		wantOut, _ := x.b.m.receive(x.data)
		spoil(given, 0x55)
		if !sameOuts(out, wantOut) {
			t.Error("the answer changed with what was handed in")
		}
		x.b.want(t)
	}
}

// TestCopied: W8: one that is copied as a value goes on as the one that it was.
func TestCopied(t *testing.T) {
	a := rich(t)
	r := *a.r
	copied := both{&r, a.m}
	copied.want(t)
	copied.mustInsert(t, 0, "on")
	copied.mustDraw(t, 2)
	copied.mustTick(t, 1)
	copied.mustReceive(t, opsFrom(t, nil, lays(1, nil, 1, "y")), 0)
	zero := replica.Replica{}
	again := zero
	idle := both{&again, newModel(0, api.Config{})}
	idle.mustTick(t, 3)
}

// inUse is how many bytes are held on to.
func inUse() int {
	var m runtime.MemStats
	runtime.GC()
	runtime.GC()
	runtime.ReadMemStats(&m)
	return int(m.HeapAlloc)
}

// TestKeepsLittle: P0.5, P18.14: what was cut off, forgotten, dropped, had already or refused is not held on to.
func TestKeepsLittle(t *testing.T) {
	few := keeping(3)
	few.Hold = 2
	r, _ := replica.Found(1, few)
	long := strings.Repeat("x", 100)
	far := func(seq int) []byte {
		o := lays(seq, v(1, 1, 3, seq-1), seq, long)
		return laid(api.Frame{Kind: api.FrameOps, From: 3, To: 1, Have: v(3, 9), Ops: []api.Op{o}})
	}
	before := inUse()
	for i := range 6000 {
		if _, err := r.Insert(0, long); err != api.OK {
			t.Fatal(err)
		}
		if _, err := r.Delete(0, 100); err != api.OK {
			t.Fatal(err)
		}
		r.Receive(far(7000 - i))
		r.Receive(far(7000 - i))
		r.Receive(far(7000 + i))
		r.Receive(far(7000)[1:])
		r.Tick()
		r.Draw(3)
	}
	if n := inUse() - before; n > 1<<18 {
		t.Errorf("%d bytes are kept", n)
	}
	if s := r.Sight(); len(s.Held) != 2 || s.Log > 3 {
		t.Errorf("%+v", s)
	}
	runtime.KeepAlive(r)
}
