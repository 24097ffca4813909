package editor_test

import (
	"bytes"
	"math/rand"
	"testing"

	"hearsay/api"
)

// TestReceive: P19.7: an image wakes an idle one, frames bring operations, and what goes back is what its site says.
func TestReceive(t *testing.T) {
	a := found(t, config, "héy")
	a.join(t, 2)
	b := idle(t, 2, config)
	image := a.draw(t, 2)
	out, err := b.receive(t, image[0].Data)
	if len(out) != 1 || out[0].To != 1 || err != api.OK {
		t.Fatalf("%v, error %d", out, int(err))
	}
	b.wantText(t, "héy")
	out, err = a.receive(t, out[0].Data)
	if len(out) != 0 || err != api.OK {
		t.Errorf("%v, error %d", out, int(err))
	}
	b.insert(t, api.UnitRune, 3, "!")
	b.erase(t, api.UnitRune, 0, 1)
	said := b.draw(t, 1)
	out, err = a.receive(t, said[0].Data)
	if len(out) != 1 || out[0].To != 2 || err != api.OK {
		t.Errorf("%v, error %d", out, int(err))
	}
	a.wantText(t, "éy!")
	out, err = b.receive(t, out[0].Data)
	if len(out) != 0 || err != api.OK {
		t.Errorf("%v, error %d", out, int(err))
	}
	// The image once more, which is old by now, changes nothing that is shown.
	_, err = b.receive(t, image[0].Data)
	wantErr(t, "an old image", err, api.OK)
	b.wantText(t, "éy!")
}

// TestReceiveErrors: P19.7, W3, W4: what is refused says what chapter 18 says, and changes neither the text nor an anchor.
func TestReceiveErrors(t *testing.T) {
	a, b := pair(t, config, "abc")
	a.markAll(t)
	b.insert(t, api.UnitRune, 1, "x")
	b.erase(t, api.UnitRune, 2, 3)
	good := b.draw(t, 1)[0].Data
	altered := bytes.Clone(good)
	altered[len(altered)/2] ^= 4
	long := append(bytes.Clone(good), 0)
	have := a.r.Sight().Vector
	wantRefused(t, "an active one", a, []ask{
		hearing(nil, api.ErrShort), hearing([]byte{}, api.ErrShort), hearing(good[:len(good)-1], api.ErrLong),
		hearing(long, api.ErrLong), hearing(altered, api.ErrSum),
		hearing(encoded(t, api.Frame{Kind: api.FrameOps, From: 1, To: 2, Have: have}), api.ErrSite),
		hearing(encoded(t, api.Frame{Kind: api.FrameOps, From: 2, To: 3, Have: have}), api.ErrSite),
	})
	a.wantText(t, "abc")
	a.wantRunes(t, "refused", 0, 1, 2, 3)
	_, err := a.receive(t, good)
	wantErr(t, "the frame itself", err, api.OK)
	a.wantText(t, "axc")
	a.wantRunes(t, "taken", 0, 1, 1, 3)
}

// TestReceiveImages: P19.7: which images an idle one takes.
func TestReceiveImages(t *testing.T) {
	i := nearFull("aé𝄞", 9, 9)
	f := api.Frame{Kind: api.FrameImage, From: 1, To: 2, Num: 7, Have: i.Vector, Image: i}
	strange := f
	strange.Image.Joined, strange.Image.Epoch = []int{1}, 1
	b := idle(t, 2, config)
	b.mark(t, api.UnitRune, 0)
	wantRefused(t, "idle", b, []ask{
		hearing(encoded(t, strange), api.ErrSite),
		hearing(encoded(t, api.Frame{Kind: api.FrameOps, From: 1, To: 2, Have: i.Vector}), api.ErrIdle),
	})
	out, err := b.receive(t, encoded(t, f))
	if len(out) != 1 || err != api.OK {
		t.Errorf("%v, error %d", out, int(err))
	}
	b.wantText(t, "aé𝄞")
	b.wantRunes(t, "woken", 0)
}

// TestAnyBytes: P0.9, W1, W3: any bytes, and frames that are altered or cut off, or for somebody else.
func TestAnyBytes(t *testing.T) {
	taken, refused := 0, 0
	for seed := range rounds(240) {
		rng := rand.New(rand.NewSource(int64(seed)))
		a, b := pair(t, config, "abc𝄞")
		idler := idle(t, 3, config)
		a.markAll(t)
		b.erase(t, api.UnitRune, rng.Intn(3), 3)
		b.insert(t, api.UnitRune, 1, "xyz")
		good := b.draw(t, 1)[0].Data
		a.join(t, 3)
		image := a.draw(t, 3)[0].Data
		for range 12 {
			data := spoilt(rng, [][]byte{good, image, nil}[rng.Intn(3)])
			for _, x := range []both{a, b, idler} {
				if _, err := x.receive(t, data); err == api.OK {
					taken++
				} else {
					refused++
				}
			}
		}
	}
	if refused == 0 || taken == 0 {
		t.Errorf("%d taken, %d refused", taken, refused)
	}
}

// spoilt is bytes that are something else, or rarely the same.
func spoilt(rng *rand.Rand, data []byte) []byte {
	data = bytes.Clone(data)
	switch k := rng.Intn(5); {
	case len(data) == 0:
		data = make([]byte, rng.Intn(40))
		rng.Read(data)
	case k == 0:
		data = data[:rng.Intn(len(data))]
	case k == 1:
		data = append(data, data[:rng.Intn(len(data))]...)
	case k < 4:
		for range 1 + rng.Intn(3) {
			data[rng.Intn(len(data))] ^= byte(1 << rng.Intn(8))
		}
	}
	return data
}

// TestLies: W1: frames that nobody ever spoke, and that sum up: all calls end, and what the editor shows is its site's.
func TestLies(t *testing.T) {
	for seed := range rounds(240) {
		rng := rand.New(rand.NewSource(int64(seed)))
		b := found(t, keeping(rng.Intn(6)), "abcd")
		b.join(t, 2)
		b.markAll(t)
		for range 20 {
			switch rng.Intn(4) {
			case 0:
				b.insert(t, api.UnitRune, rng.Intn(b.r.Len()+1), "x")
			case 1:
				b.erase(t, api.UnitRune, rng.Intn(3), 1+rng.Intn(4))
			default:
				b.receive(t, lie(t, rng, b))
			}
		}
		// A change of several operations may be cut short there, but what it answers was issued, one behind the other.
		before := b.r.Sight()
		ops, err := b.e.SetText("xaybzc")
		if err != api.OK {
			wantZero(t, "SetText", ops, err, api.ErrLeft)
			continue
		}
		for i, o := range ops {
			if o.Dot.Site != 1 || o.Dot.Seq <= ownSeq(before) || i > 0 && o.Dot.Seq <= ops[i-1].Dot.Seq {
				t.Fatalf("seed %d: %v; it had %v", seed, o.Dot, before.Vector)
			}
		}
		for mark := 1; mark <= b.m.last; mark++ {
			if s, err := b.e.Where(mark); err != api.OK || s.Rune > b.r.Len() {
				t.Fatalf("seed %d: %+v, error %d", seed, s, int(err))
			}
		}
	}
}

// ownSeq is how many operations a site has issued.
func ownSeq(s api.Sight) int {
	for _, d := range s.Vector {
		if d.Site == s.Site {
			return d.Seq
		}
	}
	return 0
}

// lie is a frame from 2 or 3 with operations of any site, some of which wait for what the site 1 issues next.
func lie(t *testing.T, rng *rand.Rand, b both) []byte {
	own := ownSeq(b.r.Sight())
	site := 1 + rng.Intn(3)
	o := api.Op{Dot: api.Dot{Site: site, Seq: 1 + rng.Intn(3)}, Kind: api.OpInsert + rng.Intn(2)}
	if site == 1 {
		o.Dot.Seq = own + 1 + rng.Intn(3)
		o.Deps = api.Vector{{Site: 1, Seq: o.Dot.Seq - 1}}
	} else {
		o.Deps = api.Vector{{Site: 1, Seq: own + rng.Intn(3)}}
		if o.Dot.Seq > 1 {
			o.Deps = append(o.Deps, api.Dot{Site: site, Seq: o.Dot.Seq - 1})
		}
	}
	if o.Kind == api.OpInsert {
		o.ID, o.Ref, o.Text = api.ID{Time: 5 + rng.Intn(20), Site: site}, api.ID{Time: 1 + rng.Intn(4), Site: 1}, "é𝄞"
	} else {
		o.Gone = []api.Run{{ID: api.ID{Time: 1 + rng.Intn(6), Site: 1}, Count: 1 + rng.Intn(2)}}
	}
	if rng.Intn(12) == 0 {
		o = api.Op{Dot: o.Dot, Deps: o.Deps, Kind: api.OpLeave}
	}
	return encoded(t, api.Frame{Kind: api.FrameOps, From: 2 + rng.Intn(2), To: 1, Num: rng.Intn(3), Credit: rng.Intn(9), Have: o.Deps, Ops: []api.Op{o}})
}
