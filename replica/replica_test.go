package replica_test

import (
	"slices"
	"testing"

	"hearsay/api"
)

// TestExamples: all rows of the chapter's examples.
func TestExamples(t *testing.T) {
	a := found(t, 1, c)
	if s := a.r.Sight(); !slices.Equal(s.Vector, v(1, 1)) || !slices.Equal(s.Members, []int{1}) {
		t.Errorf("Found: %+v", s)
	}
	a.wantText(t, "")

	o := a.mustInsert(t, 0, "héy")
	if o.Dot != (api.Dot{Site: 1, Seq: 2}) || o.ID != (api.ID{Time: 1, Site: 1}) || o.Ref != (api.ID{}) || !slices.Equal(o.Deps, v(1, 1)) {
		t.Errorf("%+v", o)
	}
	o = a.mustInsert(t, 1, "xx")
	a.wantText(t, "hxxéy")
	if o.Ref != (api.ID{Time: 1, Site: 1}) {
		t.Errorf("%+v", o)
	}
	o = a.mustDelete(t, 1, 2)
	if !slices.Equal(o.Gone, []api.Run{{ID: api.ID{Time: 4, Site: 1}, Count: 2}}) {
		t.Errorf("%+v", o)
	}
	a.wantText(t, "héy")

	_, err := a.insert(t, 4, "z")
	wantErr(t, "behind the end", err, api.ErrIndex)
	_, err = a.insert(t, 0, "")
	wantErr(t, "nothing", err, api.ErrText)
	_, err = a.insert(t, 0, "\xff")
	wantErr(t, "no text", err, api.ErrText)
	_, err = a.delete(t, 2, 2)
	wantErr(t, "more than there is", err, api.ErrIndex)

	if o := a.mustJoin(t, 2); o.Kind != api.OpJoin || o.Site != 2 {
		t.Errorf("%+v", o)
	}
	b := idle(t, 2, c)
	_, err = b.insert(t, 0, "q")
	wantErr(t, "an idle one", err, api.ErrIdle)
	image := a.mustDraw(t, 2)
	wantFrame(t, image, api.Frame{Kind: api.FrameImage, From: 1, To: 2, Num: 1, Credit: 8, Have: v(1, 5)})

	back := b.mustReceive(t, image, 1)
	wantFrame(t, back[0], api.Frame{Kind: api.FrameOps, From: 2, To: 1, Got: 1, Credit: 8, Answer: true, Have: v(1, 5)})
	b.wantText(t, "héy")
	if s := b.r.Sight(); !slices.Equal(s.Vector, v(1, 5)) || len(s.Base) != 0 {
		t.Errorf("%+v", s)
	}
	a.mustReceive(t, back[0], 0)
	if p := a.r.Sight().Peers; len(p) != 1 || !samePeer(p[0], api.PeerSight{Peer: 2, Heard: true, Row: v(1, 5), Usable: v(1, 5), Credit: 8}) {
		t.Errorf("%+v", p)
	}

	o = b.mustInsert(t, 3, "!")
	said := b.mustDraw(t, 1)
	wantFrame(t, said, api.Frame{Kind: api.FrameOps, From: 2, To: 1, Num: 1, Got: 1, Credit: 8, Have: v(1, 5, 2, 1), Ops: []api.Op{o}})
	back = a.mustReceive(t, said, 1)
	wantFrame(t, back[0], api.Frame{Kind: api.FrameOps, From: 1, To: 2, Got: 1, Credit: 8, Answer: true, Have: v(1, 5, 2, 1)})
	a.wantText(t, "héy!")

	if o := a.mustLeave(t); o.Kind != api.OpLeave {
		t.Errorf("%+v", o)
	}
	_, err = a.insert(t, 0, "q")
	wantErr(t, "Insert of one that leaves", err, api.ErrLeft)
	_, err = a.join(t, 3)
	wantErr(t, "Join of one that leaves", err, api.ErrLeft)
}
