package replica_test

import (
	"fmt"
	"math/rand"
	"slices"
	"testing"

	"hearsay/api"
	"hearsay/frame"
	"hearsay/replica"
)

// play is sites and the frames that are under way between them.
type play struct {
	t      *testing.T
	rng    *rand.Rand
	c      api.Config
	sites  map[int]both
	under  []replica.Out
	issued map[api.Dot]api.Op
	lies   bool // frames that are made by hand were received
	was    map[int]api.Sight
}

func newPlay(t *testing.T, seed int64, c api.Config) *play {
	t.Helper()
	p := &play{t: t, rng: rand.New(rand.NewSource(seed)), c: c, sites: map[int]both{}, issued: map[api.Dot]api.Op{}, was: map[int]api.Sight{}}
	p.sites[1] = found(t, 1, c)
	o := p.sites[1].r.Image().Log[0]
	p.issued[o.Dot] = o
	return p
}

// someConfig is a Config of small numbers, so that all limits are met.
func someConfig(rng *rand.Rand) api.Config {
	least := 1 + rng.Intn(3)
	keep := rng.Intn(8)
	if rng.Intn(3) == 0 {
		keep = 100
	}
	return api.Config{Hold: rng.Intn(5), Window: 1 + rng.Intn(3), Push: 1 + rng.Intn(4), Min: least, Max: least + rng.Intn(7), Keep: keep}
}

// numbers is the sites that there are, rising.
func (p *play) numbers() []int {
	var l []int
	for site := range p.sites {
		l = append(l, site)
	}
	slices.Sort(l)
	return l
}

func (p *play) some() both {
	l := p.numbers()
	return p.sites[l[p.rng.Intn(len(l))]]
}

// take takes down what a site issued.
func (p *play) take(o api.Op, err api.Errno) {
	if err == api.OK {
		p.issued[o.Dot] = o
	}
}

// send lets what goes out be under way.
func (p *play) send(b both, out []replica.Out) {
	p.t.Helper()
	for _, x := range out {
		p.wantSpoken(b, x)
	}
	p.under = append(p.under, out...)
}

const letters = "abcdefghijklmnopqrstuvwxyzé€𝄞"

func (p *play) text() string {
	runes := []rune(letters)
	s := ""
	for range 1 + p.rng.Intn(3) {
		s += string(runes[p.rng.Intn(len(runes))])
	}
	return s
}

// step is one step; at most so many sites join.
func (p *play) step(most int) {
	p.t.Helper()
	b := p.some()
	length := b.r.Len()
	switch k := p.rng.Intn(100); {
	case k < 20:
		p.take(b.insert(p.t, p.rng.Intn(length+1), p.text()))
	case k < 30:
		at := p.rng.Intn(length + 1)
		p.take(b.delete(p.t, at, 1+p.rng.Intn(max(1, min(4, length-at)))))
	case k < 34:
		next := len(p.sites) + 1
		if next > most {
			break
		}
		if o, err := b.join(p.t, next); err == api.OK {
			p.take(o, err)
			p.sites[next] = idle(p.t, next, p.c)
		}
	case k < 35:
		if b.m.site != 1 {
			p.take(b.leave(p.t))
		}
	case k < 50:
		out, _ := b.draw(p.t, 1+p.rng.Intn(most))
		p.send(b, out)
	case k < 62:
		for range 1 + p.rng.Intn(6) {
			out, _ := b.tick(p.t)
			p.send(b, out)
		}
	case k < 64:
		p.spoilt()
	default:
		p.deliver(b)
	}
}

// deliver lets one of the frames arrive that are under way; some arrive once more later, and some never.
func (p *play) deliver(b both) {
	p.t.Helper()
	if len(p.under) == 0 {
		return
	}
	i := p.rng.Intn(len(p.under))
	x := p.under[i]
	if p.rng.Intn(5) > 0 {
		p.under = slices.Delete(p.under, i, i+1)
	}
	to, ok := p.sites[x.To]
	if p.rng.Intn(8) == 0 || !ok {
		return
	}
	out, err := to.receive(p.t, x.Data)
	if f := decoded(p.t, x.Data); err != api.OK && to.m.active {
		p.t.Fatalf("a frame from %d to %d was refused: error %d", f.From, f.To, int(err))
	}
	p.send(to, out)
}

// spoilt lets a frame arrive that is altered, cut off, or for another site: all of which are refused.
func (p *play) spoilt() {
	p.t.Helper()
	if len(p.under) == 0 {
		return
	}
	x := cloneOuts(p.under)[p.rng.Intn(len(p.under))]
	to, ok := p.sites[x.To]
	if !ok {
		return
	}
	switch p.rng.Intn(3) {
	case 0:
		x.Data[p.rng.Intn(len(x.Data))] ^= byte(1 + p.rng.Intn(255))
	case 1:
		x.Data = x.Data[:p.rng.Intn(len(x.Data))]
	case 2:
		to = p.some()
		if to.m.site == x.To {
			return
		}
	}
	if out, err := to.receive(p.t, x.Data); err == api.OK || len(out) > 0 {
		p.t.Fatalf("a spoilt frame was taken: error %d", int(err))
	}
}

// wantSpoken: P18.12: what is spoken is what the peer's row lacks, the first ones of the log, within Push and credit; and whoever has that row and the base can deliver one behind the other.
func (p *play) wantSpoken(b both, x replica.Out) {
	p.t.Helper()
	f := decoded(p.t, x.Data)
	if f.From != b.m.site || f.To != x.To {
		p.t.Fatalf("site %d to %d: from %d to %d", b.m.site, x.To, f.From, f.To)
	}
	talk := b.talkWith(p.t, x.To)
	if (len(talk.Flight) > 0) != (talk.Gap > 0) || f.Num > 0 && !slices.Contains(talk.Flight, f.Num) {
		p.t.Fatalf("number %d: %+v", f.Num, talk)
	}
	if f.Kind == api.FrameImage {
		if talk.Heard {
			p.t.Fatalf("an image for %d, which was heard of", x.To)
		}
		return
	}
	if n := len(f.Ops); n > p.c.Push || n > max(1, talk.Credit) || (n > 0) != (f.Num > 0) {
		p.t.Fatalf("%d operations, number %d, credit %d", n, f.Num, talk.Credit)
	}
	row := vecOf(talk.Row)
	there := row.with(vecOf(b.r.Sight().Base))
	log := b.r.Image().Log
	lacking := slices.DeleteFunc(log, func(o api.Op) bool { return row.has(o.Dot) })
	if len(f.Ops) > len(lacking) || !slices.EqualFunc(f.Ops, lacking[:len(f.Ops)], sameOp) {
		p.t.Fatalf("spoken to %d, which has %v: %+v", x.To, talk.Row, f.Ops)
	}
	for _, o := range f.Ops {
		if !there.covers(vecOf(o.Deps)) || there[o.Dot.Site] != o.Dot.Seq-1 {
			p.t.Fatalf("%v cannot be delivered behind %v", o.Dot, there)
		}
		there[o.Dot.Site]++
	}
}

// wantAll holds what follows: P18.10, P18.11, P18.13 and P0.5, of all sites.
func (p *play) wantAll() {
	p.t.Helper()
	for _, n := range p.numbers() {
		p.wantWhole(p.sites[n])
		p.wantNoFall(p.sites[n])
		if !p.lies {
			p.wantPast(p.sites[n])
		}
	}
	for _, n := range p.numbers() {
		for _, k := range p.numbers() {
			if n < k && !p.lies {
				p.wantAlike(p.sites[n], p.sites[k])
			}
		}
	}
}

// wantWhole: P18.10, P18.11: the base and the log are the vector, and the bounds hold.
func (p *play) wantWhole(b both) {
	p.t.Helper()
	s, image := b.r.Sight(), b.r.Image()
	there := vecOf(s.Base)
	for _, o := range image.Log {
		there[o.Dot.Site]++
		if there[o.Dot.Site] != o.Dot.Seq || !there.covers(vecOf(o.Deps)) {
			p.t.Fatalf("%v in the log behind %v", o.Dot, there)
		}
	}
	if there != vecOf(s.Vector) || !vecOf(s.Vector).covers(vecOf(s.Base)) || s.Log != len(image.Log) {
		p.t.Fatalf("base %v and log %v, vector %v", s.Base, image.Log, s.Vector)
	}
	if len(s.Held) > p.c.Hold {
		p.t.Fatalf("%d wait", len(s.Held))
	}
	for _, x := range s.Peers {
		if len(x.Flight) > p.c.Window || x.Gap > p.c.Max || x.Gap > 0 && x.Gap < p.c.Min || (x.Gap > 0) != (len(x.Flight) > 0) {
			p.t.Fatalf("%+v", x)
		}
	}
}

// wantNoFall: P18.11: neither base nor vector nor clock nor tick falls.
func (p *play) wantNoFall(b both) {
	p.t.Helper()
	s := b.r.Sight()
	was := p.was[b.m.site]
	if !vecOf(s.Vector).covers(vecOf(was.Vector)) || !vecOf(s.Base).covers(vecOf(was.Base)) || s.Clock < was.Clock || s.Tick < was.Tick {
		p.t.Fatalf("%+v; it was %+v", s, was)
	}
	p.was[b.m.site] = s
}

// ops is the issued operations that a vector has, in whatever order.
func (p *play) ops(has vec) []api.Op {
	var l []api.Op
	for d, o := range p.issued {
		if has.has(d) {
			l = append(l, o)
		}
	}
	return l
}

// wantPast: P18.10, P0.1: text, members, and the elements that are kept, are what the operations of the vector alone say.
func (p *play) wantPast(b both) {
	p.t.Helper()
	s := b.r.Sight()
	if !s.Active {
		return
	}
	ops := p.ops(vecOf(s.Vector))
	if len(ops) != vecOf(s.Vector).sum() {
		p.t.Fatalf("%v has what was never issued", s.Vector)
	}
	nodes := pastNodes(ops, vecOf(s.Base))
	if got := b.r.Image().Nodes; !slices.Equal(got, nodes) {
		p.t.Fatalf("site %d keeps %v; want %v", s.Site, got, nodes)
	}
	text := ""
	for _, n := range nodes {
		if n.State == api.StateShown {
			text += string(n.Rune)
		}
	}
	b.wantText(p.t, text)
	var joined, left [api.MaxSites + 1]bool
	for _, o := range ops {
		switch o.Kind {
		case api.OpJoin:
			joined[o.Site] = true
		case api.OpLeave:
			left[o.Dot.Site] = true
		}
	}
	if want := sites(func(n int) bool { return joined[n] && !left[n] }); !slices.Equal(s.Members, want) {
		p.t.Fatalf("members %v; want %v", s.Members, want)
	}
}

// pastNodes is the elements that operations make, by recursion from the beginning on; settled is what a delete of the base names, and left out where nothing stands behind it.
func pastNodes(ops []api.Op, base vec) []api.Node {
	behind := map[api.ID][]api.Node{}
	for _, o := range ops {
		if o.Kind != api.OpInsert {
			continue
		}
		id, ref := o.ID, o.Ref
		for _, r := range o.Text {
			behind[ref] = append(behind[ref], api.Node{ID: id, Ref: ref, Rune: r, State: pastState(ops, base, id)})
			ref = id
			id.Time++
		}
	}
	var walk func(ref api.ID) []api.Node
	walk = func(ref api.ID) []api.Node {
		slices.SortFunc(behind[ref], func(a, b api.Node) int {
			if below(a.ID, b.ID) {
				return 1
			}
			return -1
		})
		var all []api.Node
		for _, n := range behind[ref] {
			if rest := walk(n.ID); len(rest) > 0 || n.State != api.StateSettled {
				all = append(append(all, n), rest...)
			}
		}
		return all
	}
	return walk(api.ID{})
}

func pastState(ops []api.Op, base vec, id api.ID) int {
	state := api.StateShown
	for _, o := range ops {
		if names(o.Gone, id) {
			if base.has(o.Dot) {
				return api.StateSettled
			}
			state = api.StateDeleted
		}
	}
	return state
}

// wantAlike: P18.13, P0.2: two active ones of one vector have one text, one order and the same members; and whatever two ones keep stands in one order.
func (p *play) wantAlike(a, b both) {
	p.t.Helper()
	s, r := a.r.Sight(), b.r.Sight()
	if !s.Active || !r.Active {
		return
	}
	one, two := a.r.Image().Nodes, b.r.Image().Nodes
	has := func(l []api.Node) func(api.Node) bool {
		return func(n api.Node) bool { return !slices.ContainsFunc(l, func(x api.Node) bool { return x.ID == n.ID }) }
	}
	id := func(x, y api.Node) bool { return x.ID == y.ID && x.Ref == y.Ref && x.Rune == y.Rune }
	if !slices.EqualFunc(slices.DeleteFunc(slices.Clone(one), has(two)), slices.DeleteFunc(slices.Clone(two), has(one)), id) {
		p.t.Fatalf("two orders: %v, %v", one, two)
	}
	if slices.Equal(s.Vector, r.Vector) && (a.r.Text() != b.r.Text() || !slices.Equal(s.Members, r.Members)) {
		p.t.Fatalf("of one vector: %q, %v; %q, %v", a.r.Text(), s.Members, b.r.Text(), r.Members)
	}
}

// settle lets all talk with all, and whatever they say arrive, until those that stay have the same.
func (p *play) settle() {
	p.t.Helper()
	for range 300 {
		for _, n := range p.numbers() {
			b := p.sites[n]
			for _, k := range p.numbers() {
				out, _ := b.draw(p.t, k)
				p.send(b, out)
			}
			for len(p.under) > 0 {
				x := p.under[0]
				p.under = p.under[1:]
				if to, ok := p.sites[x.To]; ok {
					out, _ := to.receive(p.t, x.Data)
					p.send(to, out)
				}
			}
		}
		if p.settled() {
			return
		}
	}
	p.t.Fatal("it does not settle")
}

// settled tells whether all sites that are active and stay have the same.
func (p *play) settled() bool {
	all := map[string]int{}
	for _, b := range p.sites {
		if s := b.r.Sight(); s.Active && !s.Leaving {
			all[fmt.Sprint(s.Vector)]++
		}
	}
	return len(all) <= 1
}

func rounds(all int) int {
	if testing.Short() {
		return all / 8
	}
	return all
}

// always is what all scripts come to.
var always = []string{
	"image", "operations", "no operations", "answer", "number again", "had", "cut", "cut of nothing", "forgotten",
	"due", "timer off", "timer anew", "left", "not offered",
}

// TestScripts: P18.1 to P18.13, P0.2, P0.5, P0.7, W2: many scripts of up to four sites, whose frames get lost, doubled, disordered, altered and cut off.
func TestScripts(t *testing.T) {
	saw := seen{}
	for seed := range rounds(240) {
		rng := rand.New(rand.NewSource(int64(seed)))
		p := newPlay(t, int64(seed), someConfig(rng))
		for range 40 + rng.Intn(120) {
			p.step(4)
			p.wantAll()
			if t.Failed() {
				t.Fatalf("seed %d", seed)
			}
		}
		p.settle()
		p.wantAll()
		for _, b := range p.sites {
			saw.add(b.m.seen)
		}
	}
	if !testing.Short() {
		// What a site speaks the other one can deliver at once, so nothing ever waits here.
		saw.want(t, always...)
	}
}

// lie is a frame for a site that nobody ever spoke.
func (p *play) lie(to both) []byte {
	f := api.Frame{
		Kind: api.FrameOps, From: 1 + p.rng.Intn(5), To: to.m.site, Num: p.number(), Got: p.number(),
		Credit: p.rng.Intn(6), Answer: p.rng.Intn(3) == 0, Have: p.anyVector(to),
	}
	if p.rng.Intn(6) == 0 {
		f.Kind, f.Image = api.FrameImage, p.anyImage(to)
		f.Have = f.Image.Vector
	} else {
		for range p.rng.Intn(5) {
			f.Ops = append(f.Ops, p.anyOp(to))
		}
	}
	data, err := frame.Encode(f)
	if err != api.OK {
		return nil
	}
	return data
}

func (p *play) number() int {
	switch p.rng.Intn(12) {
	case 0:
		return api.MaxNum
	case 1:
		return api.MaxNum - 1
	}
	return p.rng.Intn(8)
}

// anyVector is a vector about that of a site.
func (p *play) anyVector(b both) api.Vector {
	have := b.m.have
	for site := 1; site <= 5; site++ {
		if p.rng.Intn(2) == 0 {
			have[site] = max(0, have[site]+p.rng.Intn(5)-3)
		}
	}
	if p.rng.Intn(20) == 0 {
		have[1+p.rng.Intn(5)] = api.MaxSeq
	}
	return have.vector()
}

// anyID is an identifier about those of a site's document, of some site.
func (p *play) anyID(b both, site int) api.ID {
	if len(b.m.nodes) > 0 && p.rng.Intn(3) > 0 {
		if id := b.m.nodes[p.rng.Intn(len(b.m.nodes))].ID; site == 0 || id.Site == site {
			return id
		}
	}
	if site == 0 {
		site = 1 + p.rng.Intn(5)
	}
	return api.ID{Time: 1 + p.rng.Intn(min(b.m.clock+4, 1<<20)), Site: site}
}

// anyOp is an operation that was issued, or one that nobody issued.
func (p *play) anyOp(b both) api.Op {
	if p.rng.Intn(4) == 0 {
		l := p.ops(b.m.have.with(vec{1: 99, 2: 99, 3: 99, 4: 99}))
		slices.SortFunc(l, func(x, y api.Op) int {
			return slices.Compare([]int{x.Dot.Site, x.Dot.Seq}, []int{y.Dot.Site, y.Dot.Seq})
		})
		return l[p.rng.Intn(len(l))]
	}
	site := 1 + p.rng.Intn(5)
	o := api.Op{Dot: api.Dot{Site: site, Seq: b.m.have[site] + 1 + p.rng.Intn(6)/4}, Kind: 1 + p.rng.Intn(3)}
	deps := b.m.have
	if p.rng.Intn(2) == 0 {
		deps = vecOf(p.anyVector(b))
	}
	deps[site] = o.Dot.Seq - 1
	o.Deps = deps.vector()
	switch o.Kind {
	case api.OpInsert:
		o.ID, o.Text = p.anyID(b, site), p.text()
		if p.rng.Intn(3) > 0 {
			o.ID.Time = b.m.clock + 1
		}
		if p.rng.Intn(4) > 0 {
			o.Ref = p.anyID(b, 0)
		}
	case api.OpDelete:
		o.Gone = []api.Run{{ID: p.anyID(b, 0), Count: 1 + p.rng.Intn(3)}}
	case api.OpJoin:
		if p.rng.Intn(4) == 0 {
			o.Kind = api.OpLeave
		} else {
			o.Site = 1 + p.rng.Intn(6)
		}
	}
	return o
}

// anyImage is an image of some site, or such a one that was changed.
func (p *play) anyImage(to both) api.Image {
	i := p.some().r.Image()
	if p.rng.Intn(2) == 0 {
		i.Joined = sites(func(n int) bool { return slices.Contains(i.Joined, n) || n == to.m.site })
		i.Epoch = len(i.Joined) - len(slices.DeleteFunc(slices.Clone(i.Left), func(n int) bool { return !slices.Contains(i.Joined, n) }))
	}
	for k := range i.Nodes {
		if p.rng.Intn(4) == 0 {
			i.Nodes[k].State = 1 + p.rng.Intn(3)
		}
	}
	if p.rng.Intn(30) == 0 {
		i.Clock = api.MaxTime - p.rng.Intn(3)
	}
	return i
}

// TestLies: W1, P0.9, P18.7, P18.10, P18.11: the same with frames between that nobody ever spoke: nothing breaks, and everything is done as the chapter's words say.
func TestLies(t *testing.T) {
	saw := seen{}
	for seed := range rounds(320) {
		rng := rand.New(rand.NewSource(int64(seed)))
		p := newPlay(t, int64(seed)+1<<20, someConfig(rng))
		p.lies = true
		for range 40 + rng.Intn(100) {
			if p.rng.Intn(3) == 0 {
				to := p.some()
				if data := p.lie(to); data != nil {
					out, _ := to.receive(t, data)
					p.send(to, out)
				}
			} else {
				p.step(4)
			}
			p.wantAll()
			if t.Failed() {
				t.Fatalf("seed %d", seed)
			}
		}
		for _, b := range p.sites {
			saw.add(b.m.seen)
		}
	}
	if !testing.Short() {
		saw.want(t, append(always, "held", "released", "dropped", "ousted", "own by others", "insert refused")...)
	}
}

// TestSame: W2: two replicas to which the same is done tell the same, whatever is done to others between; each call is held against the model, and so are both.
func TestSame(t *testing.T) {
	for seed := range rounds(40) {
		rng := rand.New(rand.NewSource(int64(seed)))
		c := someConfig(rng)
		one, two := newPlay(t, int64(seed), c), newPlay(t, int64(seed), c)
		for range 120 {
			one.step(3)
			two.step(3)
		}
		for _, n := range one.numbers() {
			a, b := one.sites[n], two.sites[n]
			if !sameSight(a.r.Sight(), b.r.Sight()) || !sameImage(a.r.Image(), b.r.Image()) || fmt.Sprint(one.under) != fmt.Sprint(two.under) {
				t.Fatalf("seed %d, site %d: two ends", seed, n)
			}
		}
	}
}
