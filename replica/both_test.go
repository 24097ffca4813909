package replica_test

import (
	"bytes"
	"fmt"
	"slices"
	"testing"

	"hearsay/api"
	"hearsay/frame"
	"hearsay/replica"
)

// c is the Config of the chapter's examples.
var c = api.Config{Hold: 8, Window: 2, Push: 3, Min: 2, Max: 8, Keep: 100}

// both is a replica, and the same worked out a second time.
type both struct {
	r *replica.Replica
	m *model
}

func found(t *testing.T, site int, c api.Config) both {
	t.Helper()
	r, err := replica.Found(site, c)
	if err != api.OK || r == nil {
		t.Fatalf("Found(%d, %v): error %d", site, c, int(err))
	}
	b := both{r, foundModel(site, c)}
	b.want(t)
	return b
}

func idle(t *testing.T, site int, c api.Config) both {
	t.Helper()
	r, err := replica.Idle(site, c)
	if err != api.OK || r == nil {
		t.Fatalf("Idle(%d, %v): error %d", site, c, int(err))
	}
	b := both{r, newModel(site, c)}
	b.want(t)
	return b
}

// Each call is made twice over; what is answered is held against what it must be, and so is all that the replica tells behind it.

func (b both) insert(t *testing.T, at int, text string) (api.Op, api.Errno) {
	t.Helper()
	o, err := b.r.Insert(at, text)
	wantOp, wantErr := b.m.insert(at, text)
	return b.wantEdit(t, fmt.Sprintf("Insert(%d, %.30q)", at, text), o, err, wantOp, wantErr)
}

func (b both) delete(t *testing.T, at, n int) (api.Op, api.Errno) {
	t.Helper()
	o, err := b.r.Delete(at, n)
	wantOp, wantErr := b.m.delete(at, n)
	return b.wantEdit(t, fmt.Sprintf("Delete(%d, %d)", at, n), o, err, wantOp, wantErr)
}

func (b both) join(t *testing.T, site int) (api.Op, api.Errno) {
	t.Helper()
	o, err := b.r.Join(site)
	wantOp, wantErr := b.m.join(site)
	return b.wantEdit(t, fmt.Sprintf("Join(%d)", site), o, err, wantOp, wantErr)
}

func (b both) leave(t *testing.T) (api.Op, api.Errno) {
	t.Helper()
	o, err := b.r.Leave()
	wantOp, wantErr := b.m.leave()
	return b.wantEdit(t, "Leave()", o, err, wantOp, wantErr)
}

func (b both) draw(t *testing.T, peer int) ([]replica.Out, api.Errno) {
	t.Helper()
	out, err := b.r.Draw(peer)
	wantOut, wantErr := b.m.draw(peer)
	return b.wantTalk(t, fmt.Sprintf("Draw(%d)", peer), out, err, wantOut, wantErr)
}

func (b both) tick(t *testing.T) ([]replica.Out, api.Errno) {
	t.Helper()
	out, err := b.r.Tick()
	wantOut, wantErr := b.m.doTick()
	return b.wantTalk(t, "Tick()", out, err, wantOut, wantErr)
}

// receive hands in bytes with some room behind them, all of which are spoilt afterwards.
func (b both) receive(t *testing.T, data []byte) ([]replica.Out, api.Errno) {
	t.Helper()
	given := append(slices.Grow(bytes.Clone(data), 9), "roomy"...)
	was := bytes.Clone(given)
	out, err := b.r.Receive(given[:len(data)])
	if !bytes.Equal(given, was) {
		t.Errorf("Receive changed what was handed in")
	}
	spoil(given, 0xee)
	wantOut, wantErr := b.m.receive(data)
	return b.wantTalk(t, fmt.Sprintf("Receive(%.20x.., %d bytes)", data, len(data)), out, err, wantOut, wantErr)
}

// wantEdit holds the answer of an edit against what it must be; it answers a copy, and spoils the answer itself.
func (b both) wantEdit(t *testing.T, about string, got api.Op, err api.Errno, want api.Op, wantErr api.Errno) (api.Op, api.Errno) {
	t.Helper()
	if err != wantErr || !sameOp(got, want) {
		t.Errorf("%s: %.200s, error %d; want %.200s, error %d", about, fmt.Sprintf("%+v", got), int(err), fmt.Sprintf("%+v", want), int(wantErr))
	}
	kept := cloneOp(got)
	spoilOp(got)
	b.want(t)
	return kept, err
}

// wantTalk does so of what goes out.
func (b both) wantTalk(t *testing.T, about string, got []replica.Out, err api.Errno, want []replica.Out, wantErr api.Errno) ([]replica.Out, api.Errno) {
	t.Helper()
	if err != wantErr || !sameOuts(got, want) {
		t.Errorf("%s: error %d, %s; want error %d, %s", about, int(err), words(got), int(wantErr), words(want))
	}
	kept := cloneOuts(got)
	spoilOuts(got)
	b.want(t)
	return kept, err
}

// words is what frames say, in few words.
func words(out []replica.Out) string {
	s := fmt.Sprint(len(out), " frames")
	for _, x := range out {
		f, err := frame.Decode(x.Data)
		s += fmt.Sprintf(" %d: %.300s (error %d)", x.To, fmt.Sprintf("%+v", f), int(err))
	}
	return s
}

// want holds all that a replica tells against what it must tell; twice, as asking changes nothing, nor does spoiling what is answered.
func (b both) want(t *testing.T) {
	t.Helper()
	for range 2 {
		b.wantDocument(t)
		sight, want := b.r.Sight(), b.m.sight()
		if !sameSight(sight, want) {
			t.Fatalf("site %d: Sight: %.900s; want %.900s", b.m.site, fmt.Sprintf("%+v", sight), fmt.Sprintf("%+v", want))
		}
		spoilSight(sight)
		image, wantImage := b.r.Image(), b.m.image()
		if !sameImage(image, wantImage) {
			t.Fatalf("site %d: Image: %.900s; want %.900s", b.m.site, fmt.Sprintf("%+v", image), fmt.Sprintf("%+v", wantImage))
		}
		spoilImage(image)
	}
}

// wantDocument does so of Text, Len, At and Find.
func (b both) wantDocument(t *testing.T) {
	t.Helper()
	shown := b.m.shown()
	if got, want := b.r.Text(), b.m.text(); got != want || b.r.Len() != len(shown) {
		t.Fatalf("site %d: %d runes %.80q; want %d, %.80q", b.m.site, b.r.Len(), got, len(shown), want)
	}
	for _, i := range []int{-1, 0, len(shown) / 2, len(shown) - 1, len(shown)} {
		id, err := b.r.At(i)
		var want api.ID
		wantErr := api.ErrIndex
		if i >= 0 && i < len(shown) {
			want, wantErr = shown[i].ID, api.OK
		}
		if id != want || err != wantErr {
			t.Fatalf("site %d: At(%d): %v, error %d; want %v, error %d", b.m.site, i, id, int(err), want, int(wantErr))
		}
	}
	ids := []api.ID{{}, {Time: b.m.clock + 1, Site: max(b.m.site, 1)}}
	for i := 0; i < len(b.m.nodes); i += 1 + len(b.m.nodes)/8 {
		ids = append(ids, b.m.nodes[i].ID)
	}
	for _, id := range ids {
		ahead, state := b.r.Find(id)
		if wantAhead, wantState := b.m.find(id); ahead != wantAhead || state != wantState {
			t.Fatalf("site %d: Find(%v): %d, %d; want %d, %d", b.m.site, id, ahead, state, wantAhead, wantState)
		}
	}
}

// What must go well, or go wrong in a way that is written out.

func (b both) mustInsert(t *testing.T, at int, text string) api.Op {
	t.Helper()
	o, err := b.insert(t, at, text)
	wantErr(t, "Insert", err, api.OK)
	return o
}

func (b both) mustDelete(t *testing.T, at, n int) api.Op {
	t.Helper()
	o, err := b.delete(t, at, n)
	wantErr(t, "Delete", err, api.OK)
	return o
}

func (b both) mustJoin(t *testing.T, site int) api.Op {
	t.Helper()
	o, err := b.join(t, site)
	wantErr(t, "Join", err, api.OK)
	return o
}

func (b both) mustLeave(t *testing.T) api.Op {
	t.Helper()
	o, err := b.leave(t)
	wantErr(t, "Leave", err, api.OK)
	return o
}

// mustDraw is the one frame that goes out.
func (b both) mustDraw(t *testing.T, peer int) []byte {
	t.Helper()
	out, err := b.draw(t, peer)
	if err != api.OK || len(out) != 1 || out[0].To != peer {
		t.Fatalf("Draw(%d): error %d, %s", peer, int(err), words(out))
	}
	return out[0].Data
}

// mustReceive is the frames that go out, with as many as are written out.
func (b both) mustReceive(t *testing.T, data []byte, answers int) [][]byte {
	t.Helper()
	out, err := b.receive(t, data)
	if err != api.OK || len(out) != answers {
		t.Fatalf("Receive: error %d, %s; want %d", int(err), words(out), answers)
	}
	return datas(out)
}

func datas(out []replica.Out) [][]byte {
	var l [][]byte
	for _, x := range out {
		l = append(l, x.Data)
	}
	return l
}

// mustTick lets ticks go by; it answers what goes out at the last one, and wants nothing ahead of it.
func (b both) mustTick(t *testing.T, ticks int) [][]byte {
	t.Helper()
	for i := range ticks {
		out, err := b.tick(t)
		wantErr(t, "Tick", err, api.OK)
		if i == ticks-1 {
			return datas(out)
		}
		if len(out) > 0 {
			t.Fatalf("Tick %d of %d: %s", i+1, ticks, words(out))
		}
	}
	return nil
}

// decoded is a frame that was spoken.
func decoded(t *testing.T, data []byte) api.Frame {
	t.Helper()
	f, err := frame.Decode(data)
	wantErr(t, "Decode", err, api.OK)
	return f
}

// encoded is the bytes of a frame that is made by hand.
func encoded(t *testing.T, f api.Frame) []byte {
	t.Helper()
	data, err := frame.Encode(f)
	if err != api.OK {
		t.Fatalf("Encode: error %d: %.300s", int(err), fmt.Sprintf("%+v", f))
	}
	return data
}

// v is a vector: sites and Seqs in turns; a Seq of 0 says nothing.
func v(numbers ...int) api.Vector {
	var has vec
	for pair := range slices.Chunk(numbers, 2) {
		has[pair[0]] = pair[1]
	}
	return has.vector()
}

func wantErr(t *testing.T, about any, got, want api.Errno) {
	t.Helper()
	if got != want {
		t.Fatalf("%v: error %d; want %d", about, int(got), int(want))
	}
}

// wantText holds what is shown against what is written out.
func (b both) wantText(t *testing.T, want string) {
	t.Helper()
	if got := b.r.Text(); got != want {
		t.Fatalf("site %d shows %.80q; want %.80q", b.m.site, got, want)
	}
}

// wantFrame holds what a frame says against what is written out, its image but for its vector left out.
func wantFrame(t *testing.T, data []byte, want api.Frame) {
	t.Helper()
	got := decoded(t, data)
	got.Image = api.Image{}
	if got.Kind != want.Kind || got.From != want.From || got.To != want.To || got.Num != want.Num || got.Got != want.Got ||
		got.Credit != want.Credit || got.Answer != want.Answer || !slices.Equal(got.Have, want.Have) || !slices.EqualFunc(got.Ops, want.Ops, sameOp) {
		t.Fatalf("spoken: %+v; want %+v", got, want)
	}
}

// talkWith is what a replica tells of its talk with a peer.
func (b both) talkWith(t *testing.T, peer int) api.PeerSight {
	t.Helper()
	for _, p := range b.r.Sight().Peers {
		if p.Peer == peer {
			return p
		}
	}
	t.Fatalf("site %d has no talk with %d", b.m.site, peer)
	return api.PeerSight{}
}

// Whether two things are the same; a nil list and an empty one are.

func sameOp(a, b api.Op) bool {
	return a.Dot == b.Dot && slices.Equal(a.Deps, b.Deps) && a.Kind == b.Kind && a.ID == b.ID && a.Ref == b.Ref &&
		a.Text == b.Text && slices.Equal(a.Gone, b.Gone) && a.Site == b.Site
}

func sameOuts(a, b []replica.Out) bool {
	return slices.EqualFunc(a, b, func(x, y replica.Out) bool { return x.To == y.To && bytes.Equal(x.Data, y.Data) })
}

func sameImage(a, b api.Image) bool {
	return slices.Equal(a.Vector, b.Vector) && slices.Equal(a.Base, b.Base) && a.Clock == b.Clock && slices.EqualFunc(a.Log, b.Log, sameOp) &&
		slices.Equal(a.Nodes, b.Nodes) && slices.Equal(a.Joined, b.Joined) && slices.Equal(a.Left, b.Left) && a.Epoch == b.Epoch
}

func sameSight(a, b api.Sight) bool {
	return a.Site == b.Site && a.Active == b.Active && a.Leaving == b.Leaving && slices.Equal(a.Vector, b.Vector) && slices.Equal(a.Base, b.Base) &&
		a.Clock == b.Clock && a.Tick == b.Tick && slices.Equal(a.Held, b.Held) && a.Log == b.Log && a.Kept == b.Kept &&
		slices.Equal(a.Members, b.Members) && a.Epoch == b.Epoch && slices.EqualFunc(a.Peers, b.Peers, samePeer)
}

func samePeer(a, b api.PeerSight) bool {
	return a.Peer == b.Peer && a.Heard == b.Heard && slices.Equal(a.Row, b.Row) && slices.Equal(a.Usable, b.Usable) &&
		slices.Equal(a.Flight, b.Flight) && a.Got == b.Got && a.Credit == b.Credit && a.Gap == b.Gap && a.Due == b.Due
}

// Copies, and spoiling: all of a list, as far as its room goes.

func cloneOp(o api.Op) api.Op {
	o.Deps, o.Gone = slices.Clone(o.Deps), slices.Clone(o.Gone)
	return o
}

func cloneOuts(out []replica.Out) []replica.Out {
	l := slices.Clone(out)
	for i := range l {
		l[i].Data = bytes.Clone(l[i].Data)
	}
	return l
}

func spoil[L ~[]E, E any](list L, with E) {
	list = list[:cap(list)]
	for i := range list {
		list[i] = with
	}
}

func spoilOp(o api.Op) {
	spoil(o.Deps, api.Dot{Site: -7, Seq: -7})
	spoil(o.Gone, api.Run{ID: api.ID{Time: -7, Site: -7}, Count: 1 << 40})
}

func spoilOuts(out []replica.Out) {
	for _, x := range out {
		spoil(x.Data, 0xdd)
	}
	spoil(out, replica.Out{})
}

func spoilImage(i api.Image) {
	for _, o := range i.Log {
		spoilOp(o)
	}
	spoil(i.Vector, api.Dot{Site: -7})
	spoil(i.Base, api.Dot{Site: -7})
	spoil(i.Log, api.Op{Kind: -7})
	spoil(i.Nodes, api.Node{State: -7})
	spoil(i.Joined, -7)
	spoil(i.Left, -7)
}

func spoilSight(s api.Sight) {
	for _, p := range s.Peers {
		spoil(p.Row, api.Dot{Site: -7})
		spoil(p.Usable, api.Dot{Site: -7})
		spoil(p.Flight, -7)
	}
	spoil(s.Vector, api.Dot{Site: -7})
	spoil(s.Base, api.Dot{Site: -7})
	spoil(s.Held, api.Dot{Site: -7})
	spoil(s.Members, -7)
	spoil(s.Peers, api.PeerSight{Peer: -7})
}

// short is the beginning of a text, in quotes.
func short(text string) string { return fmt.Sprintf("%.20q", text) }
