package past_test

import (
	"math/rand"
	"slices"
	"testing"

	"hearsay/api"
	"hearsay/frame"
	"hearsay/past"
	"hearsay/vector"
	"hearsay/world"
)

// play is a world that is played at by chance.
type play struct {
	t      *testing.T
	m      maker
	w      *world.World
	most   int // sites up to that number join
	at     map[api.Dot]int
	placed map[api.Dot][2]string // what was shown ahead of an insert, and behind it
	had    []api.Vector          // what sites had, and what two of them had both, now and then
	num    int                   // the copies up to this one were looked at
	saw    map[string]int
}

func newPlay(t *testing.T, m maker, most int, saw map[string]int) *play {
	t.Helper()
	least := 1 + m.chance.Intn(2)
	w, err := world.New(api.Config{Hold: m.chance.Intn(9), Window: 1 + m.chance.Intn(3), Push: 2 + m.chance.Intn(5), Min: least, Max: least + m.chance.Intn(4), Keep: m.chance.Intn(6)})
	if err != api.OK {
		t.Fatalf("New: error %d", int(err))
	}
	return &play{t: t, m: m, w: w, most: most, at: map[api.Dot]int{}, placed: map[api.Dot][2]string{}, saw: saw}
}

// site is one that there is.
func (p *play) site() int {
	sites := p.w.Sites()
	return sites[p.m.chance.Intn(len(sites))]
}

// under is the copies that are under way.
func (p *play) under() []api.Copy { return p.w.Do(api.Step{Kind: api.StepCopies}).Copies }

// thin lets some of the copies arrive, and loses some, if there are very many.
func (p *play) thin() {
	under := p.under()
	for _, c := range under[:max(len(under)-3*p.most, 0)] {
		kind := api.StepDeliver
		if p.m.chance.Intn(3) == 0 {
			kind = api.StepDrop
		}
		p.w.Do(api.Step{Kind: kind, N: c.Num})
	}
}

// next is any step.
func (p *play) next() api.Step {
	under := p.under()
	s := api.Step{Kind: api.StepTick, Site: p.site(), At: p.m.chance.Intn(4), N: 1 + p.m.chance.Intn(3), Data: []byte{byte(p.m.chance.Intn(256))}}
	for range p.w.Sites() {
		s.Draws = append(s.Draws, p.m.chance.Intn(2*p.most))
	}
	copies := []int{api.StepDeliver, api.StepDeliver, api.StepDeliver, api.StepDeliver, api.StepDeliver, api.StepDeliver, api.StepDrop, api.StepDouble, api.StepAlter, api.StepCut}
	joins := p.most - len(p.w.Sites())
	switch k := p.m.chance.Intn(100); {
	case k < 50 && len(under) > 0:
		s.Kind, s.N = copies[p.m.chance.Intn(len(copies))], under[p.m.chance.Intn(len(under))].Num
	case k < 66:
		s.Kind, s.Text = api.StepInsert, string([]rune("abcdefghé€𝄞xyz")[p.m.chance.Intn(10):])
		s.Text = string([]rune(s.Text)[:1+p.m.chance.Intn(4)])
	case k < 72:
		s.Kind = api.StepDelete
	case k < 72+2*joins:
		s.Kind, s.Peer, s.Site = api.StepJoin, s.Site, len(p.w.Sites())+1
	case k == 98 && p.m.chance.Intn(3) == 0:
		s.Kind = api.StepLeave
	case k == 99 && p.m.chance.Intn(4) == 0:
		s.Kind = api.StepStop
	}
	return s
}

// shows is what a site shows; nothing of one that is gone.
func (p *play) shows(site int) string {
	return p.w.Do(api.Step{Kind: api.StepText, Site: site}).Text
}

// do does a step, and keeps in mind what an insert showed.
func (p *play) do(s api.Step) {
	before := ""
	if s.Kind == api.StepInsert {
		before = p.shows(s.Site)
	}
	a := p.w.Do(s)
	if a.Err == api.OK && (s.Kind == api.StepLeave || s.Kind == api.StepStop) {
		p.saw["leaves and stops"]++
	}
	if a.Err == api.OK && s.Kind == api.StepInsert {
		p.at[a.Op.Dot], p.placed[a.Op.Dot] = s.At, [2]string{before, p.shows(s.Site)}
	}
}

// look holds each site against what chapter 24 says of what it has, and keeps in mind what that was.
func (p *play) look() {
	p.t.Helper()
	issued := shuffled(p.m, p.w.Issued())
	var now []api.Vector
	for _, site := range p.w.Sites() {
		a := p.w.Do(api.Step{Kind: api.StepSight, Site: site})
		if a.Err == api.ErrGone || !a.Sight.Active {
			continue
		}
		p.wantSite(site, a.Sight, past.Upto(issued, a.Sight.Vector))
		now = append(now, a.Sight.Vector)
		p.had = append(p.had, a.Sight.Vector)
	}
	for i, v := range now {
		for _, other := range now[:i] {
			both := vector.Least(v, other)
			p.wantClosed(issued, both)
			if p.m.chance.Intn(len(now)) == 0 {
				p.had = append(p.had, both)
			}
		}
	}
	for _, c := range p.under() {
		if c.Num <= p.num {
			continue
		}
		p.num = c.Num
		if f, err := frame.Decode(c.Data); err == api.OK && f.Kind == api.FrameImage {
			p.wantImage(f.Image, past.Upto(issued, f.Image.Vector))
		}
	}
}

// wantClosed: P24.9: those of the operations that such a vector has are all that it says, and closed.
func (p *play) wantClosed(issued []api.Op, v api.Vector) {
	p.t.Helper()
	ops := past.Upto(issued, v)
	if err := past.Closed(ops); err != api.OK || len(ops) != vector.Sum(v) {
		p.t.Fatalf("what %v has of %s: %d operations, error %d", v, words(issued), len(ops), int(err))
	}
}

// wantSite: P24.3 to P24.5, P24.9: text, members and kept elements of a site are what its operations say.
func (p *play) wantSite(site int, s api.Sight, ops []api.Op) {
	p.t.Helper()
	p.wantClosed(ops, s.Vector)
	text, _ := past.Text(ops)
	members, _ := past.Members(ops)
	nodes, err := past.Nodes(ops, s.Base)
	if shown := p.shows(site); shown != text || !slices.Equal(members, s.Members) || len(nodes) != s.Kept || err != api.OK {
		p.t.Fatalf("site %d: %q, members %v, %d elements, base %v; %s say %q, %v, %v, error %d", site, shown, s.Members, s.Kept, s.Base, words(ops), text, members, nodes, int(err))
	}
	order, _ := past.Order(ops)
	if len(nodes) < len(order) {
		p.saw["sites that forgot"]++
	}
	if slices.ContainsFunc(nodes, func(n api.Node) bool { return n.State == api.StateSettled }) {
		p.saw["sites with settled ones"]++
	}
	p.saw["sites"]++
}

// wantImage: P24.4, P24.5: an image has what its operations say.
func (p *play) wantImage(image api.Image, ops []api.Op) {
	p.t.Helper()
	p.wantClosed(ops, image.Vector)
	nodes, err := past.Nodes(ops, image.Base)
	if err != api.OK || !slices.Equal(nodes, image.Nodes) {
		p.t.Fatalf("an image, base %v, has %v; %s say %v, error %d", image.Base, image.Nodes, words(ops), nodes, int(err))
	}
	members, _ := past.Members(ops)
	if joined := slices.DeleteFunc(image.Joined, func(site int) bool { return slices.Contains(image.Left, site) }); !slices.Equal(members, joined) {
		p.t.Fatalf("an image has the members %v; %s say %v", joined, words(ops), members)
	}
	p.saw["images"]++
}

// said is what a set of operations says.
type said struct {
	v     api.Vector
	ops   []api.Op
	order []api.ID
	nodes []api.Node
	state map[api.ID]int
}

func saidOf(issued []api.Op, v api.Vector) said {
	s := said{v: v, ops: past.Upto(issued, v), state: map[api.ID]int{}}
	s.order, _ = past.Order(s.ops)
	s.nodes, _ = past.Nodes(s.ops, nil)
	for _, n := range s.nodes {
		s.state[n.ID] = n.State
	}
	return s
}

// shown is those that are, and for which something holds.
func (s said) shown(holds func(id api.ID) bool) []api.ID {
	var l []api.ID
	for _, n := range s.nodes {
		if n.State == api.StateShown && holds(n.ID) {
			l = append(l, n.ID)
		}
	}
	return l
}

// wantWithin: P24.7, P0.2: the lesser one's order is the greater one's with some left out; so is the text, but for what the greater one deletes.
func (p *play) wantWithin(less, more said) {
	p.t.Helper()
	order := slices.DeleteFunc(slices.Clone(more.order), func(id api.ID) bool { return less.state[id] == 0 })
	if !slices.Equal(less.order, order) {
		p.t.Fatalf("%v: order %v; %v: %v", less.v, less.order, more.v, more.order)
	}
	stays := less.shown(func(id api.ID) bool { return more.state[id] == api.StateShown })
	shown := more.shown(func(id api.ID) bool { return less.state[id] != 0 })
	if !slices.Equal(stays, shown) {
		p.t.Fatalf("%v: shows %v; %v: %v", less.v, less.nodes, more.v, more.nodes)
	}
	if len(more.order) > len(less.order) && len(less.order) > 0 {
		p.saw["more within more"]++
	}
	if len(stays) < len(less.shown(func(api.ID) bool { return true })) {
		p.saw["more deleted within more"]++
	}
}

// wantOne: P24.7, P24.8, P0.2: all that sites had, and what two of them had both, within one another and within all that was issued.
func (p *play) wantOne(issued []api.Op) {
	p.t.Helper()
	slices.SortStableFunc(p.had, func(a, b api.Vector) int { return vector.Sum(a) - vector.Sum(b) })
	p.had = slices.CompactFunc(p.had, func(a, b api.Vector) bool { return slices.Equal(a, b) })
	had := p.had
	var sets []said
	for _, v := range had {
		sets = append(sets, saidOf(issued, v))
	}
	whole := vec()
	for _, o := range issued {
		whole = vector.Merge(whole, api.Vector{o.Dot})
	}
	sets = append(sets, saidOf(issued, whole))
	for i, more := range sets {
		for k, less := range sets[:i] {
			if covers(more.v, less.v) && (i == len(sets)-1 || (i+k)%8 == 0) {
				p.wantWithin(less, more)
			}
		}
	}
	settled := 0
	step := max(len(had)/6, 1)
	var bases []api.Vector
	for i := 0; i < len(had); i += step {
		bases = append(bases, had[i])
	}
	p.saw["bases that leave something out"] += wantBasesFit(p.t, issued, bases, &settled)
	p.saw["elements that a greater base settles"] += settled
}

// places is where each element stands in the order.
func places(order []api.ID) map[api.ID]int {
	at := map[api.ID]int{}
	for i, id := range order {
		at[id] = i
	}
	return at
}

// ends is where the first one of an insert's elements in the order stands, and the last one.
func ends(at map[api.ID]int, o api.Op) (int, int) {
	first, last := at[o.ID], at[o.ID]
	for i := range []rune(o.Text) {
		place := at[id(o.ID.Time+i, o.ID.Site)]
		first, last = min(first, place), max(last, place)
	}
	return first, last
}

// wantPlaces: P0.2, P0.12: what is typed stands at its place at once, and between those of the order between which it was typed, whatever comes.
func (p *play) wantPlaces(issued []api.Op, at map[api.ID]int) {
	p.t.Helper()
	for _, o := range issued {
		if o.Kind != api.OpInsert {
			continue
		}
		before := saidOf(issued, o.Deps)
		next, _ := vector.Add(o.Deps, o.Dot)
		was, _ := past.Text(before.ops)
		text, err := past.Text(past.Upto(issued, next))
		place := p.at[o.Dot]
		want := string([]rune(was)[:place]) + o.Text + string([]rune(was)[place:])
		if err != api.OK || text != want || p.placed[o.Dot] != [2]string{was, text} {
			p.t.Fatalf("%q at %d of %q: %q, error %d; there it was %q", o.Text, place, was, text, int(err), p.placed[o.Dot])
		}
		first, last := ends(at, o)
		shown := before.shown(func(api.ID) bool { return true })
		if place > 0 && at[shown[place-1]] > first || place < len(shown) && at[shown[place]] < last {
			p.t.Fatalf("%+v was inserted at %d of %v; it stands at %d to %d, they at %v", o, place, shown, first, last, at)
		}
		if place > 0 && place < len(shown) {
			p.saw["texts between two"]++
		}
	}
}

// wantTogether: P0.11: of two texts behind one element, neither of which knew of the other, one stands whole ahead of the other.
func (p *play) wantTogether(issued []api.Op, at map[api.ID]int) {
	p.t.Helper()
	for i, a := range issued {
		for _, b := range issued[:i] {
			if a.Kind != api.OpInsert || b.Kind != api.OpInsert || a.Ref != b.Ref || vector.Has(a.Deps, b.Dot) || vector.Has(b.Deps, a.Dot) {
				continue
			}
			firstA, lastA := ends(at, a)
			firstB, lastB := ends(at, b)
			if lastA >= firstB && lastB >= firstA {
				p.t.Fatalf("%+v stands at %d to %d, %+v at %d to %d", a, firstA, lastA, b, firstB, lastB)
			}
			if len([]rune(a.Text)) > 1 && len([]rune(b.Text)) > 1 {
				p.saw["texts behind one"]++
			}
		}
	}
}

// TestWorlds: P24.3 to P24.9, P0.2, P0.11, P0.12: of many plays of worlds of two to sixteen sites, all that their sites and images have is what their operations say; these sets fit one another; and both ways say the same of them, in any order.
func TestWorlds(t *testing.T) {
	saw := map[string]int{}
	m := maker{rand.New(rand.NewSource(2405))}
	for n := range rounds(45) {
		most := 2 + n%15
		p := newPlay(t, m, most, saw)
		p.look()
		for step := range 200 + 10*most {
			p.do(p.next())
			p.thin()
			if step%20 == 0 {
				p.look()
			}
		}
		p.look()
		issued := shuffled(m, p.w.Issued())
		p.wantOne(issued)
		order, err := past.Order(issued)
		if err != api.OK {
			t.Fatalf("Order: error %d", int(err))
		}
		p.wantPlaces(issued, places(order))
		p.wantTogether(issued, places(order))
		bases := []api.Vector{nil, p.had[len(p.had)/2], p.had[len(p.had)-1]}
		both(t, issued, append(p.had, nil)...)
		wantAnyOrder(t, m, issued, bases, 6)
		for range 3 {
			v := p.had[m.chance.Intn(len(p.had))]
			both(t, past.Upto(issued, v), nil, vector.Least(v, bases[1]))
		}
	}
	for _, what := range []string{
		"sites", "sites that forgot", "sites with settled ones", "images", "leaves and stops", "more within more", "more deleted within more",
		"bases that leave something out", "elements that a greater base settles", "texts between two", "texts behind one",
	} {
		if saw[what] < rounds(45) {
			t.Errorf("%s: %d times", what, saw[what])
		}
	}
}
