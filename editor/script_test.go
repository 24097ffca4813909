package editor_test

import (
	"maps"
	"math"
	"math/rand"
	"slices"
	"testing"

	"hearsay/api"
	"hearsay/replica"
)

// play is two editors of one world, and the frames that are under way between them.
type play struct {
	t      *testing.T
	rng    *rand.Rand
	sites  [2]both
	under  []replica.Out
	issued []api.Op
}

func newPlay(t *testing.T, seed int64) *play {
	t.Helper()
	p := &play{t: t, rng: rand.New(rand.NewSource(seed))}
	c := api.Config{Hold: p.rng.Intn(9), Window: 1 + p.rng.Intn(3), Push: 1 + p.rng.Intn(9), Min: 1, Max: 4, Keep: p.rng.Intn(12)}
	p.sites[0] = found(t, c, "")
	p.sites[0].join(t, 2)
	p.sites[1] = idle(t, 2, c)
	p.under = p.sites[0].draw(t, 2)
	return p
}

// step is one step of one of the two.
func (p *play) step() {
	p.t.Helper()
	b := p.sites[p.rng.Intn(2)]
	switch k := p.rng.Intn(100); {
	case k < 24:
		unit, at := p.place(b)
		o, err := b.insert(p.t, unit, at, p.text(1+p.rng.Intn(4)))
		p.take(err, o)
	case k < 36:
		p.erase(b)
	case k < 46:
		ops, err := b.setText(p.t, p.changed(b))
		p.take(err, ops...)
	case k < 56:
		b.mark(p.t, api.UnitRune, p.rng.Intn(b.r.Len()+1))
	case k < 60:
		b.mark(p.t, 1+p.rng.Intn(4), p.rng.Intn(2*b.r.Len()+2))
	case k < 63:
		b.unmark(p.t, p.rng.Intn(b.m.last+2))
	case k < 76:
		if b.r.Sight().Active {
			p.under = append(p.under, b.draw(p.t, 3-b.r.Sight().Site)...)
		}
	case k < 79:
		b.receive(p.t, spoilt(p.rng, p.some().Data))
	case k < 81:
		p.refused(b)
	default:
		p.deliver()
	}
	p.wantPast(b)
}

// place is a unit and a number, of which there is mostly one such place.
func (p *play) place(b both) (int, int) {
	text := b.e.Text()
	if p.rng.Intn(8) == 0 {
		return p.rng.Intn(6), p.rng.Intn(len(text)+3) - 1
	}
	unit := units[p.rng.Intn(4)]
	runes := []rune(text)
	return unit, number(spotAhead(runes, p.rng.Intn(len(runes)+1)), unit)
}

func (p *play) text(n int) string {
	runes := []rune("abné𝄞\u0303\r\n")
	s := ""
	for range n {
		s += string(runes[p.rng.Intn(len(runes))])
	}
	return s
}

// erase takes out a few runes, or all of them, or tries to.
func (p *play) erase(b both) {
	p.t.Helper()
	unit, from := p.place(b)
	to := from + 1 + p.rng.Intn(6)
	if p.rng.Intn(12) == 0 {
		unit, from, to = api.UnitByte, 0, len(b.e.Text())
	}
	o, err := b.erase(p.t, unit, from, to)
	p.take(err, o)
}

// changed is what is shown, changed at a few places; or another text.
func (p *play) changed(b both) string {
	if p.rng.Intn(8) == 0 {
		return p.text(p.rng.Intn(12))
	}
	runes := []rune(b.e.Text())
	for range 1 + p.rng.Intn(3) {
		from := p.rng.Intn(len(runes) + 1)
		to := from + p.rng.Intn(min(4, len(runes)-from+1))
		runes = slices.Replace(runes, from, to, []rune(p.text(p.rng.Intn(3)))...)
	}
	return string(runes)
}

// refused is calls that say no, whatever is shown.
func (p *play) refused(b both) {
	p.t.Helper()
	n := len(b.e.Text())
	b.insert(p.t, 1+p.rng.Intn(4), n+1+p.rng.Intn(3), "x")
	b.insert(p.t, 1+p.rng.Intn(4), 0, "")
	b.insert(p.t, 1+p.rng.Intn(4), 0, "a\xff")
	b.erase(p.t, 1+p.rng.Intn(4), p.rng.Intn(n+1), math.MaxInt)
	b.setText(p.t, "a\xff")
	b.setText(p.t, longDiff)
	b.mark(p.t, 5, 0)
	b.unmark(p.t, -1)
}

// take takes down what was issued.
func (p *play) take(err api.Errno, ops ...api.Op) {
	if err == api.OK {
		p.issued = append(p.issued, ops...)
	}
}

// some is one of the frames that are under way.
func (p *play) some() replica.Out {
	if len(p.under) == 0 {
		return replica.Out{}
	}
	return p.under[p.rng.Intn(len(p.under))]
}

// deliver lets one of the frames arrive that are under way; some arrive once more later, and some never.
func (p *play) deliver() {
	p.t.Helper()
	if len(p.under) == 0 {
		return
	}
	i := p.rng.Intn(len(p.under))
	x := p.under[i]
	if p.rng.Intn(6) > 0 {
		p.under = slices.Delete(p.under, i, i+1)
	}
	if p.rng.Intn(8) == 0 {
		return
	}
	out, err := p.sites[x.To-1].receive(p.t, x.Data)
	if active := p.sites[x.To-1].r.Sight().Active; err != api.OK && active {
		p.t.Fatalf("a frame to %d was refused: error %d", x.To, int(err))
	}
	p.under = append(p.under, out...)
}

// wantPast: what is shown is what the operations alone say of which the site has heard.
func (p *play) wantPast(b both) {
	p.t.Helper()
	have := map[int]int{}
	for _, d := range b.r.Sight().Vector {
		have[d.Site] = d.Seq
	}
	behind, gone := map[api.ID][]api.ID{}, map[api.ID]bool{}
	runes := map[api.ID]rune{}
	for _, o := range p.issued {
		if o.Dot.Seq > have[o.Dot.Site] {
			continue
		}
		ref, id := o.Ref, o.ID
		for _, r := range o.Text {
			behind[ref] = append(behind[ref], id)
			runes[id] = r
			ref = id
			id.Time++
		}
		for _, g := range o.Gone {
			for k := range g.Count {
				gone[api.ID{Time: g.ID.Time + k, Site: g.ID.Site}] = true
			}
		}
	}
	text := ""
	var walk func(ref api.ID)
	walk = func(ref api.ID) {
		slices.SortFunc(behind[ref], func(a, b api.ID) int { return (b.Time-a.Time)*100 + b.Site - a.Site })
		for _, id := range behind[ref] {
			if !gone[id] {
				text += string(runes[id])
			}
			walk(id)
		}
	}
	walk(api.ID{})
	b.wantText(p.t, text)
}

// settle lets all that is said arrive, until both have the same.
func (p *play) settle() {
	p.t.Helper()
	for range 400 {
		for i := range p.sites {
			if p.sites[i].r.Sight().Active {
				p.under = append(p.under, p.sites[i].draw(p.t, 2-i)...)
			}
			for len(p.under) > 0 {
				x := p.under[0]
				p.under = p.under[1:]
				out, _ := p.sites[x.To-1].receive(p.t, x.Data)
				p.under = append(p.under, out...)
			}
		}
		if slices.Equal(p.sites[0].r.Sight().Vector, p.sites[1].r.Sight().Vector) {
			p.sites[0].wantText(p.t, p.sites[1].e.Text())
			return
		}
	}
	p.t.Fatal("it does not settle")
}

// always is what all scripts together come to.
var always = []string{
	"typed: more ahead", "set: more ahead", "received: more ahead",
	"erased: element gone", "erased: to the beginning", "erased: over several",
	"set: element gone", "set: to the beginning", "set: over several", "set: a new one in its place",
	"received: element gone", "received: to the beginning", "received: over several", "received: a new one in its place", "received: forgotten",
}

// TestScripts: P19.1 to P19.10, P0.10, W2, W3: many scripts of two editors whose frames get lost, doubled, disordered, altered and cut off. Behind each call text, spots and anchors are held against those of the model, and the text against the operations.
func TestScripts(t *testing.T) {
	saw := seen{}
	for seed := range rounds(100) {
		p := newPlay(t, int64(seed))
		for range 40 + p.rng.Intn(100) {
			p.step()
			if t.Failed() {
				t.Fatalf("seed %d", seed)
			}
		}
		p.settle()
		for _, b := range p.sites {
			for about, n := range b.m.seen {
				saw[about] += n
			}
		}
	}
	for _, about := range always {
		if saw[about] == 0 {
			t.Errorf("never seen: %s; but %v", about, slices.Sorted(maps.Keys(saw)))
		}
	}
}
