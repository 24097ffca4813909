package whole_test

import (
	"bytes"
	"encoding/binary"
	"hash/crc32"
	"math/rand"
	"slices"
	"testing"

	"hearsay/api"
	"hearsay/frame"
	"hearsay/replica"
)

// harms is what can be done to a copy of some bytes on its way: at each place one byte is altered, and some are, and it is cut off there.
func harms(chance *rand.Rand, data []byte) []func(num int) api.Step {
	var l []func(int) api.Step
	by := func(at int, with ...byte) {
		if at+len(with) <= len(data) && !bytes.Equal(data[at:at+len(with)], with) {
			l = append(l, func(num int) api.Step { return alter(num, at, with...) })
		}
	}
	for at := range data {
		by(at, data[at]^1<<chance.Intn(8))
		by(at, byte(chance.Intn(256)))
		by(at, someBytes(chance, 2+chance.Intn(3))...)
		by(at, pick(chance, []byte{0, 0, 0, 0}, []byte{255, 255, 255, 255}, []byte{0, 255})...)
		if at+2 < len(data) {
			by(at, data[at+1], data[at])
		}
		l = append(l, func(num int) api.Step { return cut(num, at) })
	}
	return l
}

// spoil does all that to copies of a copy, each of which then arrives: each is refused, and changes nothing.
func (p *play) spoil(c api.Copy) {
	p.t.Helper()
	p.observe()
	before := p.now
	for _, harm := range harms(p.chance, c.Data) {
		a := p.do(double(c.Num))
		if a.Err != api.OK {
			p.fail("double: error %d", int(a.Err))
		}
		num := a.Copies[0].Num
		if a := p.do(harm(num)); a.Err != api.OK {
			p.fail("%s", words(told(harm(num), a)))
		}
		a = p.do(deliver(num))
		if want := refusal(harm(num), c.Data, a.Copies[0].Data); a.Err != want {
			p.fail("%s, and the copy is answered with error %d; want %d", words(told(harm(num), api.Answer{})), int(a.Err), int(want))
		}
		if now := (look{p.shows(c.To), p.sight(c.To)}); !sameLook(now, before.looks[c.To]) {
			p.fail("%s: site %d is %s; it was %s", words(told(harm(num), a)), c.To, words(now), words(before.looks[c.To]))
		}
		p.saw["bad copies"]++
	}
	p.observe()
	p.wantUnchanged(before, deliver(c.Num), api.Answer{}, before.under, p.now.events)
	if f, _ := frame.Decode(c.Data); f.Kind == api.FrameImage {
		p.saw["images"]++
	}
	switch {
	case p.made[c.To] == idle:
		p.saw["to idle sites"]++
	case p.made[c.To] == leaving:
		p.saw["to sites that leave"]++
	}
	if a := p.do(deliver(c.Num)); a.Err != api.OK {
		p.fail("the copy itself is answered with error %d", int(a.Err))
	}
}

// refusal is how a frame is refused of which a copy was spoilt: what is too short has no sum, and a length that is not right comes ahead of the sum.
func refusal(harm api.Step, was, is []byte) api.Errno {
	switch {
	case len(is) < 8:
		return api.ErrShort
	case harm.Kind == api.StepCut || !bytes.Equal(was[:4], is[:4]):
		return api.ErrLong
	}
	return api.ErrSum
}

// TestSpoilt: P0.9: copies of many frames, spoilt in many ways each, are refused, and change nothing.
func TestSpoilt(t *testing.T) {
	t.Parallel()
	saw := map[string]int{}
	for seed := range rounds(32) {
		m := everyday(2 + seed%15)
		m.leaves, m.late, m.harms = 3, seed%2 == 0, 0
		p := newPlay(t, 9000+seed, someConfig(seeded(9000+seed)), m, saw)
		for range 3 {
			p.run(25 + m.sites)
			under := slices.DeleteFunc(p.under(), func(c api.Copy) bool { return p.made[c.To] == stopped || len(c.Data) > 700 })
			if len(under) > 0 {
				p.spoil(pick(p.chance, under...))
			}
			// Those to sites that do not listen as others do are few.
			under = slices.DeleteFunc(p.under(), func(c api.Copy) bool { return p.made[c.To] != idle && p.made[c.To] != leaving || len(c.Data) > 700 })
			if len(under) > 0 {
				p.spoil(pick(p.chance, under...))
			}
		}
	}
	wantSaw(t, saw, rounds(20000), "bad copies")
	wantSaw(t, saw, rounds(10), "images", "to idle sites", "to sites that leave")
}

// whole is all that a site tells.
type whole struct {
	look  look
	image api.Image
}

func wholeOf(r *replica.Replica) whole { return whole{look{r.Text(), r.Sight()}, r.Image()} }

func sameImage(a, b api.Image) bool {
	return slices.Equal(a.Vector, b.Vector) && slices.Equal(a.Base, b.Base) && a.Clock == b.Clock && slices.EqualFunc(a.Log, b.Log, sameOp) &&
		slices.Equal(a.Nodes, b.Nodes) && slices.Equal(a.Joined, b.Joined) && slices.Equal(a.Left, b.Left) && a.Epoch == b.Epoch
}

// receivers is sites of all kinds, which had to do with one another: one that is idle, one that leaves, and others; and frames that they said.
func receivers(t *testing.T, chance *rand.Rand) ([]*replica.Replica, [][]byte) {
	t.Helper()
	c := someConfig(chance)
	one, _ := replica.Found(1, c)
	all := []*replica.Replica{one}
	for site := 2; site <= 4; site++ {
		r, err := replica.Idle(site, c)
		if err != api.OK {
			t.Fatalf("Idle: error %d", int(err))
		}
		one.Join(site)
		all = append(all, r)
	}
	var frames [][]byte
	for n := range 60 {
		// The last one hears nothing, and stays idle.
		from, to := chance.Intn(3), chance.Intn(4)
		all[from].Insert(0, someText(chance))
		all[from].Delete(chance.Intn(3), 1)
		out, _ := all[from].Draw(to + 1)
		for _, o := range out {
			frames = append(frames, o.Data)
			if to < 3 && chance.Intn(3) > 0 {
				back, _ := all[to].Receive(o.Data)
				for _, b := range back {
					frames = append(frames, b.Data)
				}
			}
		}
		if n == 40 {
			all[1].Leave()
		}
	}
	return all, frames
}

// summed is a frame of a body, with its length and its sum.
func summed(body []byte) []byte {
	b := append(binary.LittleEndian.AppendUint32(nil, uint32(len(body))), body...)
	return binary.LittleEndian.AppendUint32(b, crc32.ChecksumIEEE(b))
}

// someFrame is bytes that nobody said: any bytes, parts of frames, frames with other bytes in them, whether they sum up or not.
func someFrame(chance *rand.Rand, frames [][]byte) []byte {
	f := bytes.Clone(pick(chance, frames...))
	switch chance.Intn(10) {
	case 7, 8, 9:
		return lie(chance, f)
	case 0:
		return someBytes(chance, chance.Intn(60))
	case 1:
		return summed(someBytes(chance, chance.Intn(60)))
	case 2:
		return f[:chance.Intn(len(f))]
	case 3:
		return append(f, someBytes(chance, 1+chance.Intn(9))...)
	case 4:
		return append(f[:chance.Intn(len(f))], pick(chance, frames...)...)
	case 5:
		return summed(f[4 : 4+chance.Intn(len(f)-7)])
	}
	body := f[4 : len(f)-4]
	for range 1 + chance.Intn(3) {
		body[chance.Intn(len(body))] = byte(chance.Intn(256)) >> (chance.Intn(2) * 6)
	}
	return summed(body)
}

// lie is a frame of which something is not as it was said.
func lie(chance *rand.Rand, data []byte) []byte {
	f, _ := frame.Decode(data)
	number := func() int { return pick(chance, 0, 1, 2, chance.Intn(99), api.MaxNum) }
	switch chance.Intn(5) {
	case 0:
		f.From, f.To = 1+chance.Intn(api.MaxSites), 1+chance.Intn(4)
	case 1:
		f.Num, f.Got, f.Credit, f.Answer = number(), number(), min(number(), api.MaxHold), chance.Intn(2) == 0
	case 2:
		f.Have = api.Vector{{Site: 1 + chance.Intn(4), Seq: 1 + number()/2}}
	case 3:
		if len(f.Ops) > 0 && len(f.Ops[0].Deps) > 0 {
			o := &f.Ops[0]
			o.ID.Time, o.Deps = o.ID.Time+chance.Intn(3), append(o.Deps[:0:0], o.Deps[:len(o.Deps)-1]...)
		}
	case 4:
		dot := api.Dot{Site: 1 + chance.Intn(4), Seq: 1 + chance.Intn(60)}
		o := api.Op{Kind: api.OpLeave, Dot: dot}
		if dot.Seq > 1 {
			o.Deps = api.Vector{{Site: dot.Site, Seq: dot.Seq - 1}}
		}
		if chance.Intn(2) == 0 {
			o.Kind, o.ID, o.Ref, o.Text = api.OpInsert, api.ID{Time: 9, Site: dot.Site}, api.ID{Time: 8, Site: 3}, "lie"
		}
		f.Ops = append(f.Ops, o)
	}
	if told, err := frame.Encode(f); err == api.OK {
		return told
	}
	return data
}

// TestAnyBytes: P0.9: whatever bytes a site receives, it answers or tells an error; with an error nothing has changed. What sums up and was never sent may be taken in; nothing breaks by it.
func TestAnyBytes(t *testing.T) {
	t.Parallel()
	chance := rand.New(rand.NewSource(9900))
	saw := map[string]int{}
	for range rounds(64) {
		sites, frames := receivers(t, chance)
		for range 120 {
			r, data := pick(chance, sites...), someFrame(chance, frames)
			before, given := wholeOf(r), bytes.Clone(data)
			out, err := r.Receive(data)
			if !bytes.Equal(data, given) {
				t.Fatalf("%x was changed to %x", given, data)
			}
			if err == api.OK {
				saw["taken in"]++
				r.Tick()
				r.Insert(0, "x")
				r.Delete(0, 2)
				continue
			}
			saw["refused"]++
			if now := wholeOf(r); len(out) > 0 || !sameLook(now.look, before.look) || !sameImage(now.image, before.image) {
				t.Fatalf("%x: error %d, %s; the site is %s; it was %s", data, int(err), words(out), words(now), words(before))
			}
		}
	}
	wantSaw(t, saw, rounds(1000), "refused")
	wantSaw(t, saw, rounds(64), "taken in")
}
