package replica_test

import (
	"math/rand"
	"slices"
	"testing"

	"hearsay/api"
	"hearsay/image"
)

// randomImage is an image that may be, by which the site 2 is a member: operations, elements and a roll that need have nothing to do with each other.
func randomImage(rng *rand.Rand) api.Image {
	m := newModel(2, c)
	for range rng.Intn(4) {
		m.base[1+rng.Intn(api.MaxSites)] = 1 + rng.Intn(9)
	}
	if rng.Intn(10) == 0 {
		m.base[1+rng.Intn(api.MaxSites)] = api.MaxSeq - rng.Intn(2)
	}
	have := m.base
	for range rng.Intn(8) {
		if o := randomOp(rng, have); have[o.Dot.Site] < api.MaxSeq {
			m.got = append(m.got, o)
			m.clock = max(m.clock, lastOf(o))
			have[o.Dot.Site]++
		}
	}
	for range rng.Intn(8) {
		ref := api.ID{}
		if len(m.nodes) > 0 && rng.Intn(4) > 0 {
			ref = m.nodes[rng.Intn(len(m.nodes))].ID
		}
		m.lay(api.ID{Time: ref.Time + 1 + rng.Intn(4), Site: 1 + rng.Intn(4)}, ref, "x𝄞é"[:[]int{1, 5, 7}[rng.Intn(3)]])
	}
	for k := range m.nodes {
		m.nodes[k].State = 1 + rng.Intn(3)
		m.clock = max(m.clock, m.nodes[k].ID.Time)
	}
	m.clock += rng.Intn(3) * rng.Intn(1000)
	if rng.Intn(20) == 0 {
		m.clock = api.MaxTime - rng.Intn(2)
	}
	m.joined[2] = true
	both := 0
	for site := 1; site <= api.MaxSites; site++ {
		m.joined[site] = m.joined[site] || rng.Intn(3) == 0
		m.left[site] = site != 2 && rng.Intn(3) == 0
		if m.joined[site] && m.left[site] {
			both++
		}
	}
	m.epoch = len(sites(m.member)) + 2*rng.Intn(both+1)
	m.active, m.have = true, have
	return m.image()
}

// randomOp is an operation that can be delivered behind a vector.
func randomOp(rng *rand.Rand, have vec) api.Op {
	site := 1 + rng.Intn(4)
	deps := have
	for n := range deps {
		if n != site && rng.Intn(2) == 0 {
			deps[n] = rng.Intn(deps[n] + 1)
		}
	}
	o := api.Op{Dot: api.Dot{Site: site, Seq: have[site] + 1}, Deps: deps.vector(), Kind: 1 + rng.Intn(4)}
	switch o.Kind {
	case api.OpInsert:
		o.ID, o.Text = api.ID{Time: 1 + rng.Intn(20), Site: site}, "né"
		if rng.Intn(2) == 0 && o.ID.Time > 1 {
			o.Ref = api.ID{Time: 1 + rng.Intn(o.ID.Time-1), Site: 1 + rng.Intn(4)}
		}
	case api.OpDelete:
		o.Gone = []api.Run{{ID: api.ID{Time: 1 + rng.Intn(5), Site: 1 + rng.Intn(4)}, Count: 1 + rng.Intn(3)}, {ID: api.ID{Time: 20, Site: 5}, Count: 1}}
	case api.OpJoin:
		o.Site = 1 + rng.Intn(api.MaxSites)
	}
	return o
}

// TestAnyImage: P9.5, P18.7, P18.8: any image that may be is taken in whole, and answered again; the site goes on from there as the chapter says.
func TestAnyImage(t *testing.T) {
	logs, nodes := 0, 0
	for seed := range rounds(3000) {
		rng := rand.New(rand.NewSource(int64(seed)))
		i := randomImage(rng)
		if err := image.Check(i); err != api.OK {
			t.Fatalf("seed %d: error %d: %+v", seed, int(err), i)
		}
		logs += len(i.Log)
		nodes += len(i.Nodes)
		from := []int{1, 3, 16}[rng.Intn(3)]
		b := idle(t, 2, keeping(api.MaxKeep))
		for range rng.Intn(3) {
			b.mustTick(t, 1)
		}
		tick := b.m.tick
		f := api.Frame{Kind: api.FrameImage, From: from, To: 2, Num: rng.Intn(3), Got: rng.Intn(9), Credit: rng.Intn(9), Answer: rng.Intn(2) == 0, Have: i.Vector, Image: i}
		b.receive(t, encoded(t, f))
		if got := b.r.Image(); !sameImage(got, i) {
			t.Fatalf("seed %d: %+v; want %+v", seed, got, i)
		}
		s := b.r.Sight()
		if !s.Active || s.Leaving || s.Tick != tick || len(s.Held) > 0 || len(s.Peers) != 1 || s.Peers[0].Peer != from || !slices.Equal(s.Peers[0].Usable, i.Vector) {
			t.Fatalf("seed %d: %+v", seed, s)
		}
		// It goes on, and what it tells another one is that image again.
		b.insert(t, b.r.Len(), "on")
		b.delete(t, 0, 1)
		for _, peer := range s.Members {
			if peer != 2 && peer != from {
				next := idle(t, peer, c)
				next.receive(t, b.mustDraw(t, peer))
				if next.r.Text() != b.r.Text() {
					t.Fatalf("seed %d: %q; %q", seed, next.r.Text(), b.r.Text())
				}
				break
			}
		}
	}
	if !testing.Short() && (logs < 5000 || nodes < 5000) {
		t.Errorf("%d operations, %d elements", logs, nodes)
	}
}

// TestImageTwice: P18.7: an image makes an idle one active once; the next one is taken as what its log brings.
func TestImageTwice(t *testing.T) {
	a := found(t, 1, c)
	a.mustJoin(t, 2)
	a.mustInsert(t, 0, "hey")
	one := a.mustDraw(t, 2)
	a.mustInsert(t, 3, "!")
	two := a.mustDraw(t, 2)
	for _, order := range [][][]byte{{one, two}, {two, one}, {one, one, two, two}, {two, two, one}} {
		b := idle(t, 2, c)
		for _, data := range order {
			b.mustReceive(t, data, 1)
		}
		b.wantText(t, "hey!")
		if !slices.Equal(b.r.Sight().Vector, v(1, 4)) {
			t.Errorf("%+v", b.r.Sight())
		}
	}
}
