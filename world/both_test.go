package world_test

import (
	"bytes"
	"fmt"
	"math"
	"slices"
	"testing"

	"hearsay/api"
	"hearsay/world"
)

// c is the Config of the chapter's examples.
var c = api.Config{Hold: 8, Window: 2, Push: 3, Min: 2, Max: 8, Keep: 100}

// edges is numbers about each limit there is, and such whose low bits are those of others.
var edges = []int{
	math.MinInt, math.MinInt + 1, -1<<32 - 1, -1 << 32, -1<<32 + 1, -1 << 31, -17, -16, -2, -1, 0, 1, 2, 3, 4, 5, 7, 8, 9, 15, 16, 17, 18, 255, 256, 257,
	1<<16 + 1, 1<<31 - 2, 1<<31 - 1, 1 << 31, 1<<31 + 1, 1 << 32, 1<<32 + 1, 1<<32 + 2, math.MaxInt - 3, math.MaxInt - 1, math.MaxInt,
}

// both is a world, and the same worked out a second time.
type both struct {
	w *world.World
	m *model
}

func begun(t *testing.T, c api.Config) both {
	t.Helper()
	w, err := world.New(c)
	if err != api.OK || w == nil {
		t.Fatalf("New(%v): error %d", c, int(err))
	}
	b := both{w, newModel(c)}
	b.want(t)
	return b
}

// do does a step twice over, and holds what is answered against what it must be, and so all that the world tells behind it. What was handed in and what was answered are spoilt.
func (b both) do(t *testing.T, s api.Step) api.Answer {
	t.Helper()
	a := b.ask(t, s)
	b.want(t)
	return a
}

// ask is do, but for what the world tells behind it.
func (b both) ask(t *testing.T, s api.Step) api.Answer {
	t.Helper()
	given := roomy(s)
	got := b.w.Do(given)
	wantUnchanged(t, given, s)
	spoilStep(given)
	want := b.m.do(s)
	if !sameAnswer(got, want) {
		t.Fatalf("step %d, %s: %s; want %s", b.m.steps-1, words(s), words(got), words(want))
	}
	kept := cloneAnswer(got)
	spoilAnswer(got)
	return kept
}

// lay lets a site say something that is made by hand.
func (b both) lay(t *testing.T, from, to int, data []byte) int {
	t.Helper()
	world.Lay(b.w, from, to, data)
	m := b.m.sent(b.m.steps, from, to, string(data))
	b.want(t)
	return m.Num
}

// want holds what a world tells against what it must tell; twice, as asking changes nothing, nor does spoiling what is answered.
func (b both) want(t *testing.T) {
	t.Helper()
	for range 2 {
		events, issued, sites := b.w.Events(), b.w.Issued(), b.w.Sites()
		if n := b.w.Steps(); n != b.m.steps {
			t.Fatalf("%d steps; want %d", n, b.m.steps)
		}
		if !slices.Equal(events, b.m.events) {
			t.Fatalf("events %s; want %s", words(events), words(b.m.events))
		}
		if !slices.EqualFunc(issued, b.m.issued, sameOp) {
			t.Fatalf("issued %s; want %s", words(issued), words(b.m.issued))
		}
		if !slices.Equal(sites, b.m.numbers()) {
			t.Fatalf("sites %v; want %v", sites, b.m.numbers())
		}
		spoil(events, api.Event{Step: -7, Kind: -7, Copy: -7, From: -7, To: -7, Sent: -7, Bad: true})
		spoil(sites, -7)
		spoilOps(issued)
	}
}

// wantAll asks all that steps can ask, of all sites; these are steps, too.
func (b both) wantAll(t *testing.T) {
	t.Helper()
	for site := range api.MaxSites + 2 {
		b.ask(t, api.Step{Kind: api.StepText, Site: site})
		b.ask(t, api.Step{Kind: api.StepSight, Site: site})
	}
	b.ask(t, api.Step{Kind: api.StepCopies})
	b.want(t)
}

// Steps the answers of which are written out.

func (b both) must(t *testing.T, s api.Step, want api.Errno) api.Answer {
	t.Helper()
	a := b.do(t, s)
	if a.Err != want {
		t.Fatalf("%s: error %d; want %d", words(s), int(a.Err), int(want))
	}
	return a
}

func insert(site, at int, text string) api.Step {
	return api.Step{Kind: api.StepInsert, Site: site, At: at, Text: text}
}

func remove(site, at, n int) api.Step {
	return api.Step{Kind: api.StepDelete, Site: site, At: at, N: n}
}

func join(site, peer int) api.Step { return api.Step{Kind: api.StepJoin, Site: site, Peer: peer} }

func leave(site int) api.Step { return api.Step{Kind: api.StepLeave, Site: site} }

func stop(site int) api.Step { return api.Step{Kind: api.StepStop, Site: site} }

func tick(draws ...int) api.Step { return api.Step{Kind: api.StepTick, Draws: draws} }

func deliver(n int) api.Step { return api.Step{Kind: api.StepDeliver, N: n} }

func drop(n int) api.Step { return api.Step{Kind: api.StepDrop, N: n} }

func double(n int) api.Step { return api.Step{Kind: api.StepDouble, N: n} }

func alter(n, at int, data string) api.Step {
	return api.Step{Kind: api.StepAlter, N: n, At: at, Data: []byte(data)}
}

func cut(n, at int) api.Step { return api.Step{Kind: api.StepCut, N: n, At: at} }

func text(site int) api.Step { return api.Step{Kind: api.StepText, Site: site} }

func sight(site int) api.Step { return api.Step{Kind: api.StepSight, Site: site} }

func copies() api.Step { return api.Step{Kind: api.StepCopies} }

// wantText holds what a site shows against what is written out.
func (b both) wantText(t *testing.T, site int, want string) {
	t.Helper()
	if a := b.must(t, text(site), api.OK); a.Text != want {
		t.Fatalf("site %d shows %.80q; want %.80q", site, a.Text, want)
	}
}

// way is a copy without its bytes: number, from, to, sent.
type way struct{ num, from, to, sent int }

// wantCopies holds what is under way against what is written out, all of it clean.
func (b both) wantCopies(t *testing.T, want ...way) {
	t.Helper()
	var got []way
	for _, c := range b.must(t, copies(), api.OK).Copies {
		got = append(got, way{c.Num, c.From, c.To, c.Sent})
		if c.Bad || len(c.Data) == 0 {
			t.Fatalf("under way: %s", words(c))
		}
	}
	if !slices.Equal(got, want) {
		t.Fatalf("under way: %v; want %v", got, want)
	}
}

// wantLast holds the last events against what is written out.
func (b both) wantLast(t *testing.T, want ...api.Event) {
	t.Helper()
	events := b.w.Events()
	if last := events[max(0, len(events)-len(want)):]; !slices.Equal(last, want) {
		t.Fatalf("the last events: %v; want %v", last, want)
	}
}

// joined is a world in which so many sites are, all of them active, who know one another; nothing is under way.
func joined(t *testing.T, c api.Config, sites int) both {
	t.Helper()
	b := begun(t, c)
	for site := 2; site <= sites; site++ {
		b.must(t, join(site, 1), api.OK)
	}
	for range 40 {
		for k := range sites {
			b.ask(t, tick(slices.Repeat([]int{k}, sites)...))
			for _, c := range b.m.copies() {
				b.ask(t, deliver(c.Num))
			}
		}
		if under := b.m.copies(); len(under) == 0 && b.know(sites) {
			b.want(t)
			return b
		}
	}
	t.Fatal("they do not come to know one another")
	return b
}

// know tells whether so many sites are members for each of them, and have heard of one another.
func (b both) know(sites int) bool {
	for site := 1; site <= sites; site++ {
		s := b.m.sites[site].site.Sight()
		if len(s.Members) != sites || len(s.Peers) != sites-1 || slices.ContainsFunc(s.Peers, func(p api.PeerSight) bool { return !p.Heard }) {
			return false
		}
	}
	return true
}

// words is something in words, not too many.
func words(x any) string { return fmt.Sprintf("%.900s", fmt.Sprintf("%+v", x)) }

func wantErr(t *testing.T, about any, got, want api.Errno) {
	t.Helper()
	if got != want {
		t.Fatalf("%v: error %d; want %d", about, int(got), int(want))
	}
}

// Whether two things are the same; a nil list and an empty one are.

func sameAnswer(a, b api.Answer) bool {
	return a.Err == b.Err && a.Text == b.Text && sameOp(a.Op, b.Op) && sameSight(a.Sight, b.Sight) && slices.EqualFunc(a.Copies, b.Copies, sameCopy)
}

func sameCopy(a, b api.Copy) bool {
	return a.Num == b.Num && a.From == b.From && a.To == b.To && bytes.Equal(a.Data, b.Data) && a.Sent == b.Sent && a.Bad == b.Bad
}

func sameOp(a, b api.Op) bool {
	return a.Dot == b.Dot && slices.Equal(a.Deps, b.Deps) && a.Kind == b.Kind && a.ID == b.ID && a.Ref == b.Ref &&
		a.Text == b.Text && slices.Equal(a.Gone, b.Gone) && a.Site == b.Site
}

func sameSight(a, b api.Sight) bool {
	return a.Site == b.Site && a.Active == b.Active && a.Leaving == b.Leaving && slices.Equal(a.Vector, b.Vector) && slices.Equal(a.Base, b.Base) &&
		a.Clock == b.Clock && a.Tick == b.Tick && slices.Equal(a.Held, b.Held) && a.Log == b.Log && a.Kept == b.Kept &&
		slices.Equal(a.Members, b.Members) && a.Epoch == b.Epoch && slices.EqualFunc(a.Peers, b.Peers, samePeer)
}

func samePeer(a, b api.PeerSight) bool {
	return a.Peer == b.Peer && a.Heard == b.Heard && slices.Equal(a.Row, b.Row) && slices.Equal(a.Usable, b.Usable) &&
		slices.Equal(a.Flight, b.Flight) && a.Got == b.Got && a.Credit == b.Credit && a.Gap == b.Gap && a.Due == b.Due
}

// Copies of what is handed in and answered, and spoiling: all of a list, as far as its room goes.

// roomy is a step whose lists have something behind their ends.
func roomy(s api.Step) api.Step {
	s.Draws = append(slices.Clone(s.Draws), 1, 1, 1)[:len(s.Draws)]
	s.Data = append(bytes.Clone(s.Data), "room"...)[:len(s.Data)]
	return s
}

func wantUnchanged(t *testing.T, given, was api.Step) {
	t.Helper()
	draws, data := given.Draws[:len(was.Draws)+3], given.Data[:len(was.Data)+4]
	if !slices.Equal(draws, append(slices.Clone(was.Draws), 1, 1, 1)) || string(data) != string(was.Data)+"room" {
		t.Fatalf("what was handed in is now %v, %q; it was %s", draws, data, words(was))
	}
}

func spoilStep(s api.Step) {
	spoil(s.Draws, -77)
	spoil(s.Data, 0xee)
}

func cloneOp(o api.Op) api.Op {
	o.Deps, o.Gone = slices.Clone(o.Deps), slices.Clone(o.Gone)
	return o
}

func cloneAnswer(a api.Answer) api.Answer {
	a.Op = cloneOp(a.Op)
	a.Sight = cloneSight(a.Sight)
	a.Copies = cloneCopies(a.Copies)
	return a
}

func cloneCopies(l []api.Copy) []api.Copy {
	l = slices.Clone(l)
	for i := range l {
		l[i].Data = bytes.Clone(l[i].Data)
	}
	return l
}

func cloneSight(s api.Sight) api.Sight {
	s.Vector, s.Base, s.Held, s.Members = slices.Clone(s.Vector), slices.Clone(s.Base), slices.Clone(s.Held), slices.Clone(s.Members)
	s.Peers = slices.Clone(s.Peers)
	for i, p := range s.Peers {
		s.Peers[i].Row, s.Peers[i].Usable, s.Peers[i].Flight = slices.Clone(p.Row), slices.Clone(p.Usable), slices.Clone(p.Flight)
	}
	return s
}

func spoil[L ~[]E, E any](list L, with E) {
	list = list[:cap(list)]
	for i := range list {
		list[i] = with
	}
}

func spoilOps(l []api.Op) {
	for _, o := range l {
		spoilOp(o)
	}
	spoil(l, api.Op{Kind: -7, Text: "spoilt"})
}

func spoilOp(o api.Op) {
	spoil(o.Deps, api.Dot{Site: -7, Seq: -7})
	spoil(o.Gone, api.Run{ID: api.ID{Time: -7, Site: -7}, Count: 1 << 40})
}

func spoilAnswer(a api.Answer) {
	spoilOp(a.Op)
	for _, p := range a.Sight.Peers {
		spoil(p.Row, api.Dot{Site: -7})
		spoil(p.Usable, api.Dot{Site: -7})
		spoil(p.Flight, -7)
	}
	spoil(a.Sight.Vector, api.Dot{Site: -7})
	spoil(a.Sight.Base, api.Dot{Site: -7})
	spoil(a.Sight.Held, api.Dot{Site: -7})
	spoil(a.Sight.Members, -7)
	spoil(a.Sight.Peers, api.PeerSight{Peer: -7})
	for _, x := range a.Copies {
		spoil(x.Data, 0xdd)
	}
	spoil(a.Copies, api.Copy{Num: -7, Data: []byte("spoilt")})
}
