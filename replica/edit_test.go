package replica_test

import (
	"fmt"
	"math"
	"slices"
	"strings"
	"testing"

	"hearsay/api"
	"hearsay/replica"
)

// edges is numbers about each limit there is, and such whose low bits are those of others.
var edges = []int{
	math.MinInt, math.MinInt + 1, -1<<32 - 1, -1 << 32, -1<<32 + 1, -1 << 31, -257, -17, -16, -2, -1, 0, 1, 2, 3, 4, 5, 7, 8, 9, 15, 16, 17, 18, 63, 64, 65, 66, 255, 256, 257, 258,
	1023, 1024, 1025, 4095, 4096, 4097, 1<<20 - 1, 1 << 20, 1<<20 + 1, 1<<31 - 2, 1<<31 - 1, 1 << 31, 1<<31 + 1, 1<<32 - 1, 1 << 32, 1<<32 + 1, 1<<32 + 2, 1<<62 + 1, math.MaxInt - 1, math.MaxInt,
}

// wantNew holds what Found and Idle answer of a site and a Config against whether these may be.
func wantNew(t *testing.T, site int, c api.Config, may bool) {
	t.Helper()
	if may {
		found(t, site, c)
		idle(t, site, c)
		return
	}
	for name, make := range map[string]func(int, api.Config) (*replica.Replica, api.Errno){"Found": replica.Found, "Idle": replica.Idle} {
		if r, err := make(site, c); r != nil || err != api.ErrArg {
			t.Errorf("%s(%d, %v): %v, error %d", name, site, c, r != nil, int(err))
		}
	}
}

// TestNew: P18.1, W3: sites about their limits, and Configs with each field about its own.
func TestNew(t *testing.T) {
	taken := 0
	for _, site := range edges {
		may := site >= 1 && site <= 16
		wantNew(t, site, c, may)
		wantNew(t, site, api.Config{Hold: 8, Window: 2, Push: 3, Min: 2, Max: 8, Keep: -1}, false)
		wantNew(t, site, api.Config{}, false)
		if may {
			taken++
		}
	}
	if taken != 10 {
		t.Errorf("%d sites were taken", taken)
	}
	may := func(c api.Config) bool {
		return c.Hold >= 0 && c.Hold <= 256 && c.Window >= 1 && c.Window <= 64 && c.Push >= 1 && c.Push <= 256 &&
			c.Min >= 1 && c.Min <= c.Max && c.Max <= 4096 && c.Keep >= 0 && c.Keep <= 1<<20
	}
	fields := []func(c *api.Config) *int{
		func(c *api.Config) *int { return &c.Hold }, func(c *api.Config) *int { return &c.Window }, func(c *api.Config) *int { return &c.Push },
		func(c *api.Config) *int { return &c.Min }, func(c *api.Config) *int { return &c.Max }, func(c *api.Config) *int { return &c.Keep },
	}
	for _, field := range fields {
		for _, n := range edges {
			one := c
			*field(&one) = n
			wantNew(t, 5, one, may(one))
			wantNew(t, 0, one, false)
			for _, other := range fields {
				for _, k := range []int{-1, 0, 1, 64, 65, 256, 257, 4096, 4097, 1 << 20, 1<<20 + 1} {
					two := one
					*other(&two) = k
					wantNew(t, 5, two, may(two))
				}
			}
		}
	}
	for _, least := range edges {
		for _, most := range edges {
			is := c
			is.Min, is.Max = least, most
			wantNew(t, 5, is, may(is))
		}
	}
}

// TestFound: P18.1: what a founder has: its own join alone, which is not tidied away.
func TestFound(t *testing.T) {
	for site := 1; site <= 16; site++ {
		none := c
		none.Keep = 0
		b := found(t, site, none)
		join := api.Op{Dot: api.Dot{Site: site, Seq: 1}, Kind: api.OpJoin, Site: site}
		want := api.Image{Vector: v(site, 1), Log: []api.Op{join}, Joined: []int{site}, Epoch: 1}
		if got := b.r.Image(); !sameImage(got, want) {
			t.Errorf("Found(%d): %+v", site, got)
		}
		s := api.Sight{Site: site, Active: true, Vector: v(site, 1), Log: 1, Members: []int{site}, Epoch: 1}
		if got := b.r.Sight(); !sameSight(got, s) {
			t.Errorf("Found(%d): %+v", site, got)
		}
	}
	one, _ := replica.Found(1, c)
	two, _ := replica.Found(1, c)
	if one == two {
		t.Error("two founders are one")
	}
}

// TestIdle: P18.1, P18.8, P18.9, W8: an idle one has nothing, and so has a zero one; ticks go by all the same.
func TestIdle(t *testing.T) {
	zero := both{&replica.Replica{}, newModel(0, api.Config{})}
	for _, b := range []both{idle(t, 2, c), zero, {new(replica.Replica), newModel(0, api.Config{})}} {
		for tick := range 4 {
			b.want(t)
			if got := b.r.Sight(); !sameSight(got, api.Sight{Site: b.m.site, Tick: tick}) {
				t.Errorf("%+v", got)
			}
			if got := b.r.Image(); !sameImage(got, api.Image{}) {
				t.Errorf("%+v", got)
			}
			for _, n := range edges {
				for _, k := range []int{n, 0, 1} {
					_, err := b.insert(t, n, "x")
					wantErr(t, "Insert", err, api.ErrIdle)
					_, err = b.delete(t, n, k)
					wantErr(t, "Delete", err, api.ErrIdle)
				}
				_, err := b.join(t, n)
				wantErr(t, "Join", err, api.ErrIdle)
				_, err = b.draw(t, n)
				wantErr(t, "Draw", err, api.ErrIdle)
				id, err := b.r.At(n)
				wantErr(t, "At", err, api.ErrIndex)
				ahead, state := b.r.Find(api.ID{Time: n, Site: 1})
				if id != (api.ID{}) || ahead != 0 || state != 0 {
					t.Errorf("%v, %d, %d", id, ahead, state)
				}
			}
			for _, text := range []string{"", "\xff", strings.Repeat("x", 1025)} {
				_, err := b.insert(t, 7, text)
				wantErr(t, "Insert", err, api.ErrIdle)
			}
			_, err := b.leave(t)
			wantErr(t, "Leave", err, api.ErrIdle)
			if out := b.mustTick(t, 1); len(out) > 0 {
				t.Errorf("%d frames", len(out))
			}
		}
	}
	founder := found(t, 1, c)
	founder.mustJoin(t, 2)
	_, err := zero.receive(t, founder.mustDraw(t, 2))
	wantErr(t, "an image for another one", err, api.ErrSite)
}

// TestNil: W1, W8: to a nil one nothing happens.
func TestNil(t *testing.T) {
	var r *replica.Replica
	image := found(t, 1, c)
	image.mustJoin(t, 2)
	data := image.mustDraw(t, 2)
	for _, n := range edges {
		for _, text := range []string{"", "x", "\xff"} {
			o, err := r.Insert(n, text)
			if !sameOp(o, api.Op{}) || err != api.ErrArg {
				t.Errorf("%+v, error %d", o, int(err))
			}
		}
		for _, do := range []func() (api.Op, api.Errno){
			func() (api.Op, api.Errno) { return r.Delete(n, 1) },
			func() (api.Op, api.Errno) { return r.Delete(0, n) },
			func() (api.Op, api.Errno) { return r.Join(n) },
			r.Leave,
		} {
			if o, err := do(); !sameOp(o, api.Op{}) || err != api.ErrArg {
				t.Errorf("%+v, error %d", o, int(err))
			}
		}
		for _, do := range []func() ([]replica.Out, api.Errno){
			func() ([]replica.Out, api.Errno) { return r.Draw(n) },
			r.Tick,
			func() ([]replica.Out, api.Errno) { return r.Receive(nil) },
			func() ([]replica.Out, api.Errno) { return r.Receive(data) },
		} {
			if out, err := do(); len(out) > 0 || err != api.ErrArg {
				t.Errorf("%d frames, error %d", len(out), int(err))
			}
		}
		if id, err := r.At(n); id != (api.ID{}) || err != api.ErrArg {
			t.Errorf("%v, error %d", id, int(err))
		}
		if ahead, state := r.Find(api.ID{Time: n, Site: n}); ahead != 0 || state != 0 {
			t.Errorf("%d, %d", ahead, state)
		}
	}
	if r.Text() != "" || r.Len() != 0 || !sameImage(r.Image(), api.Image{}) || !sameSight(r.Sight(), api.Sight{}) {
		t.Error("a nil one has something")
	}
}

// TestInsert: P18.2, P0.2: texts of all kinds at all places: the text stands where it was asked for, at once.
func TestInsert(t *testing.T) {
	texts := []string{
		"", "a", "é", "€", "𝄞", "\x00", "\uFFFD", "\U0010FFFF", "ab\ncd", "e\u0301",
		"\xff", "a\xff", "\xffa", "\xc0\x80", "\xed\xa0\x80", "\xf4\x90\x80\x80", "a\xe2\x82", "\xe2\x82a", "\x80",
		strings.Repeat("a", 1023), strings.Repeat("a", 1024), strings.Repeat("a", 1025), strings.Repeat("𝄞", 1024), strings.Repeat("𝄞", 1025),
		strings.Repeat("a", 1024) + "\xff", "\xff" + strings.Repeat("a", 5000), strings.Repeat("a", 1<<16),
	}
	good := 0
	for _, text := range texts {
		for _, at := range slices.Concat(edges, []int{6}) {
			b := found(t, 3, c)
			b.mustInsert(t, 0, "hé")
			b.mustInsert(t, 1, "xyz")
			b.mustDelete(t, 2, 1)
			was := []rune(b.r.Text())
			if string(was) != "hxzé" {
				t.Fatalf("%q", string(was))
			}
			o, err := b.insert(t, at, text)
			switch {
			case text == "" || strings.ToValidUTF8(text, "") != text:
				wantErr(t, short(text), err, api.ErrText)
			case len([]rune(text)) > 1024:
				wantErr(t, short(text), err, api.ErrLong)
			case at < 0 || at > 4:
				wantErr(t, at, err, api.ErrIndex)
			default:
				good++
				wantErr(t, short(text), err, api.OK)
				b.wantText(t, string(was[:at])+text+string(was[at:]))
				ref := []api.ID{{}, {Time: 1, Site: 3}, {Time: 3, Site: 3}, {Time: 5, Site: 3}, {Time: 2, Site: 3}}[at]
				want := api.Op{Dot: api.Dot{Site: 3, Seq: 5}, Deps: v(3, 4), Kind: api.OpInsert, ID: api.ID{Time: 6, Site: 3}, Ref: ref, Text: text}
				if !sameOp(o, want) {
					t.Errorf("%+v; want %+v", o, want)
				}
				if s := b.r.Sight(); s.Clock != 5+len([]rune(text)) || s.Log != 5 || !slices.Equal(s.Vector, v(3, 5)) {
					t.Errorf("%+v", s)
				}
			}
		}
	}
	if good != 5*12 {
		t.Errorf("%d inserts", good)
	}
}

// sparse is an image for the site 2 whose n shown elements are as many runs.
func sparse(n, seq int) api.Image {
	i := api.Image{Vector: v(1, 2, 2, seq), Base: v(1, 2, 2, seq), Clock: 2 * n, Joined: []int{1, 2}, Epoch: 2}
	for k := range n {
		node := api.Node{ID: api.ID{Time: 2*k + 1, Site: 1 + k%2}, Rune: rune('a' + k%26), State: api.StateShown}
		if k > 0 {
			node.Ref = i.Nodes[k-1].ID
		}
		i.Nodes = append(i.Nodes, node)
	}
	return i
}

// woken is the site 2, which took in an image.
func woken(t *testing.T, c api.Config, i api.Image) both {
	t.Helper()
	b := idle(t, 2, c)
	b.mustReceive(t, encoded(t, api.Frame{Kind: api.FrameImage, From: 1, To: 2, Have: i.Vector, Image: i}), 0)
	return b
}

// TestDelete: P18.3: places and numbers of all kinds; as many runs as may be, and one more.
func TestDelete(t *testing.T) {
	good := 0
	for _, at := range edges {
		for _, n := range edges {
			b := found(t, 1, c)
			b.mustInsert(t, 0, "hey")
			b.mustInsert(t, 1, "é𝄞")
			was := []rune(b.r.Text())
			o, err := b.delete(t, at, n)
			if at < 0 || n < 1 || at > 5 || n > 5-at {
				wantErr(t, [2]int{at, n}, err, api.ErrIndex)
				continue
			}
			good++
			wantErr(t, [2]int{at, n}, err, api.OK)
			b.wantText(t, string(was[:at])+string(was[at+n:]))
			if o.Kind != api.OpDelete || o.Dot != (api.Dot{Site: 1, Seq: 4}) || !slices.Equal(o.Deps, v(1, 3)) {
				t.Errorf("%+v", o)
			}
		}
	}
	if good != 5+4+3+2+1 {
		t.Errorf("%d deletes", good)
	}

	for n := 1023; n <= 1027; n++ {
		b := woken(t, c, sparse(1026, 7))
		o, err := b.delete(t, 0, n)
		switch n {
		case 1023, 1024:
			wantErr(t, n, err, api.OK)
			if len(o.Gone) != n || b.r.Len() != 1026-n {
				t.Errorf("%d runs; %d runes are left", len(o.Gone), b.r.Len())
			}
		case 1025, 1026:
			wantErr(t, n, err, api.ErrLong)
		default:
			wantErr(t, n, err, api.ErrIndex)
		}
	}
}

// TestDeleteRuns: P18.3: the runs are those of the elements, whoever inserted them, in the order of their identifiers; what was deleted already is none of them.
func TestDeleteRuns(t *testing.T) {
	a, b := pair(t, c)
	a.mustInsert(t, 0, "abcdef")
	tell(t, a, b)
	b.mustInsert(t, 3, "xyz")
	b.mustDelete(t, 4, 1)
	tell(t, b, a)
	a.wantText(t, "abcxzdef")
	o := a.mustDelete(t, 2, 4)
	want := []api.Run{{ID: api.ID{Time: 3, Site: 1}, Count: 2}, {ID: api.ID{Time: 7, Site: 2}, Count: 1}, {ID: api.ID{Time: 9, Site: 2}, Count: 1}}
	if !slices.Equal(o.Gone, want) {
		t.Errorf("%+v", o.Gone)
	}
	a.wantText(t, "abef")
}

// pair is two sites that talked, each of which lacks nothing.
func pair(t *testing.T, c api.Config) (both, both) {
	t.Helper()
	a := found(t, 1, c)
	a.mustJoin(t, 2)
	b := idle(t, 2, c)
	tell(t, a, b)
	return a, b
}

// tell lets one draw the other, until each has what the other one has.
func tell(t *testing.T, from, to both) {
	t.Helper()
	for range 100 {
		said := []replica.Out{{To: to.m.site, Data: from.mustDraw(t, to.m.site)}}
		for len(said) > 0 {
			at := map[int]both{from.m.site: from, to.m.site: to}[said[0].To]
			out, err := at.receive(t, said[0].Data)
			wantErr(t, "Receive", err, api.OK)
			said = append(said[1:], out...)
		}
		if from.m.have == to.m.have {
			return
		}
	}
	t.Fatalf("%d and %d do not come together", from.m.site, to.m.site)
}

// TestJoin: P18.4: sites that are none, that are known, that left, and of which nothing is known.
func TestJoin(t *testing.T) {
	for _, site := range edges {
		a, b := pair(t, c)
		a.mustJoin(t, 4)
		b.mustLeave(t)
		a.mustReceive(t, b.mustDraw(t, 1), 0)
		o, err := a.join(t, site)
		switch {
		case site < 1 || site > 16:
			wantErr(t, site, err, api.ErrArg)
		case site == 1 || site == 2 || site == 4: // itself; it left; it was let in
			wantErr(t, site, err, api.ErrExists)
		default:
			wantErr(t, site, err, api.OK)
			if !sameOp(o, api.Op{Dot: api.Dot{Site: 1, Seq: 4}, Deps: v(1, 3, 2, 1), Kind: api.OpJoin, Site: site}) {
				t.Errorf("%+v", o)
			}
			want := []int{1, 4, site}
			slices.Sort(want)
			if s := a.r.Sight(); !slices.Equal(s.Members, want) || s.Epoch != 5 {
				t.Errorf("%+v", s)
			}
			_, err = a.join(t, site)
			wantErr(t, site, err, api.ErrExists)
		}
	}
}

// TestLeave: P18.4, P18.5, P18.6, P18.7, W3: a site that leaves, and each call behind it: it edits no more, and takes in no operation; but it talks.
func TestLeave(t *testing.T) {
	a, b := pair(t, c)
	a.mustInsert(t, 0, "hey")
	tell(t, a, b)
	o := b.mustLeave(t)
	if !sameOp(o, api.Op{Dot: api.Dot{Site: 2, Seq: 1}, Deps: v(1, 3), Kind: api.OpLeave}) {
		t.Errorf("%+v", o)
	}
	if s := b.r.Sight(); !s.Leaving || !s.Active || !slices.Equal(s.Members, []int{1}) || s.Epoch != 3 {
		t.Errorf("%+v", s)
	}
	for _, n := range edges {
		for _, text := range []string{"", "x", "\xff", strings.Repeat("x", 1025)} {
			_, err := b.insert(t, n, text)
			wantErr(t, "Insert", err, api.ErrLeft)
		}
		_, err := b.delete(t, n, 1)
		wantErr(t, "Delete", err, api.ErrLeft)
		_, err = b.delete(t, 0, n)
		wantErr(t, "Delete", err, api.ErrLeft)
		_, err = b.join(t, n)
		wantErr(t, "Join", err, api.ErrLeft)
	}
	_, err := b.leave(t)
	wantErr(t, "Leave", err, api.ErrLeft)

	// It tells of its leave, again and again, until that is acknowledged.
	said := b.mustDraw(t, 1)
	wantFrame(t, said, api.Frame{Kind: api.FrameOps, From: 2, To: 1, Num: 1, Got: 2, Credit: 8, Have: v(1, 3, 2, 1), Ops: []api.Op{o}})
	later := b.mustTick(t, 2)
	wantFrame(t, later[0], api.Frame{Kind: api.FrameOps, From: 2, To: 1, Num: 2, Got: 2, Credit: 8, Have: v(1, 3, 2, 1), Ops: []api.Op{o}})

	// What others do meanwhile it does not take in, but answers: for a member.
	a.mustInsert(t, 0, "oh ")
	a.mustReceive(t, b.mustDraw(t, 1), 0) // for a it is no member any more, so nothing is answered
	a.wantText(t, "oh hey")
	more := api.Op{Dot: api.Dot{Site: 1, Seq: 4}, Deps: v(1, 3), Kind: api.OpInsert, ID: api.ID{Time: 4, Site: 1}, Text: "no"}
	back := b.mustReceive(t, encoded(t, api.Frame{Kind: api.FrameOps, From: 1, To: 2, Num: 3, Got: 1, Have: v(1, 4, 2, 1), Ops: []api.Op{more}}), 1)
	wantFrame(t, back[0], api.Frame{Kind: api.FrameOps, From: 2, To: 1, Got: 3, Credit: 8, Answer: true, Have: v(1, 3, 2, 1)})
	b.wantText(t, "hey")
	if p := b.talkWith(t, 1); len(p.Flight) != 0 || p.Gap != 0 || !slices.Equal(p.Row, v(1, 4, 2, 1)) || !slices.Equal(p.Usable, v(1, 3)) {
		t.Errorf("%+v", p)
	}
}

// state is a site that refuses something.
type state struct {
	name                      string
	b                         both
	idle, leaving, seq, clock bool
}

// states is sites of each kind; the active ones show 1026 runes, no two of one run.
func states(t *testing.T) []state {
	t.Helper()
	const all, last = 1026, 1<<31 - 1
	image := func(seq, clock int) api.Image {
		i := sparse(all, seq)
		i.Clock = clock
		return i
	}
	leaving, leavingFull := woken(t, c, image(7, 5000)), woken(t, c, image(last-1, last))
	leaving.mustLeave(t)
	leavingFull.mustLeave(t)
	return []state{
		{name: "idle", b: idle(t, 2, c), idle: true},
		{name: "leaving", b: leaving, leaving: true},
		{name: "leaving and full", b: leavingFull, leaving: true, seq: true, clock: true},
		{name: "without a Seq", b: woken(t, c, image(last, 5000)), seq: true},
		{name: "without a time", b: woken(t, c, image(7, last)), clock: true},
		{name: "without both", b: woken(t, c, image(last, last)), seq: true, clock: true},
		{name: "active", b: woken(t, c, image(7, 5000))},
	}
}

// refusal is an error that a call answers where something holds.
type refusal struct {
	holds bool
	err   api.Errno
}

// firstOf is the error of the first refusal that holds.
func firstOf(all ...refusal) api.Errno {
	for _, x := range all {
		if x.holds {
			return x.err
		}
	}
	return api.OK
}

// TestErrors: P18.2 to P18.5, W3, W4, P0.7: whatever errors apply at once, the first one of the chapter's order counts, and nothing changes.
func TestErrors(t *testing.T) {
	two := map[string]int{}
	about := func(s state, call string, got, want api.Errno) {
		t.Helper()
		wantErr(t, s.name+": "+call, got, want)
		two[s.name+fmt.Sprint(int(want))]++
	}
	for _, s := range states(t) {
		begin := []refusal{{s.idle, api.ErrIdle}, {s.leaving, api.ErrLeft}}
		full := refusal{s.seq, api.ErrFull}
		for _, text := range []string{"", "\xff", "\xff" + strings.Repeat("x", 1025), strings.Repeat("x", 1025)} {
			for _, at := range []int{-1, 0, 1027, math.MaxInt} {
				_, err := s.b.insert(t, at, text)
				about(s, "Insert", err, firstOf(append(begin, refusal{text == "" || text[0] == 0xff, api.ErrText}, refusal{true, api.ErrLong})...))
			}
		}
		for _, at := range []int{math.MinInt, -1, 1027, math.MaxInt} {
			_, err := s.b.insert(t, at, "x")
			about(s, "Insert", err, firstOf(append(begin, refusal{true, api.ErrIndex})...))
		}
		for _, x := range [][2]int{{-1, 1}, {0, 0}, {0, 1027}, {2, 1025}, {-1, 1027}, {math.MaxInt, math.MaxInt}, {1, math.MaxInt}, {0, math.MinInt}} {
			_, err := s.b.delete(t, x[0], x[1])
			about(s, "Delete", err, firstOf(append(begin, refusal{true, api.ErrIndex})...))
		}
		_, err := s.b.delete(t, 0, 1025)
		about(s, "Delete", err, firstOf(append(begin, refusal{true, api.ErrLong})...))
		for _, site := range []int{-1, 0, 17, math.MaxInt} {
			_, err := s.b.join(t, site)
			about(s, "Join", err, firstOf(append(begin, refusal{true, api.ErrArg})...))
		}
		for _, site := range []int{1, 2} {
			_, err := s.b.join(t, site)
			about(s, "Join", err, firstOf(append(begin, refusal{true, api.ErrExists})...))
		}
		for _, peer := range []int{-1, 0, 2, 3, 17} {
			_, err := s.b.draw(t, peer)
			about(s, "Draw", err, firstOf(refusal{s.idle, api.ErrIdle}, refusal{true, api.ErrArg}))
		}
		_, err = s.b.draw(t, 1)
		about(s, "Draw", err, firstOf(refusal{s.idle, api.ErrIdle}))
		_, err = s.b.insert(t, 1026, "x")
		about(s, "Insert", err, firstOf(append(begin, full, refusal{s.clock, api.ErrFull})...))
		_, err = s.b.delete(t, 0, 1024)
		about(s, "Delete", err, firstOf(append(begin, full)...))
		_, err = s.b.join(t, 3)
		about(s, "Join", err, firstOf(append(begin, full)...))
		_, err = s.b.leave(t)
		about(s, "Leave", err, firstOf(append(begin, full)...))
	}
	if len(two) != 1+3+3+7+7+7+6 {
		t.Errorf("%d kinds of errors: %v", len(two), two)
	}
}

// TestFull: P18.2, P18.3, P18.4: the last Seq is given, and none behind it; the last time is given, and none behind it.
func TestFull(t *testing.T) {
	const last = 1<<31 - 1
	calls := []func(b both) (api.Op, api.Errno){
		func(b both) (api.Op, api.Errno) { return b.insert(t, 1, "x") },
		func(b both) (api.Op, api.Errno) { return b.delete(t, 0, 1) },
		func(b both) (api.Op, api.Errno) { return b.join(t, 3) },
		func(b both) (api.Op, api.Errno) { return b.leave(t) },
	}
	for i, call := range calls {
		for _, clock := range []int{100, last - 1, last} {
			image := sparse(5, last-1)
			image.Clock = clock
			b := woken(t, c, image)
			o, err := call(b)
			if i == 0 && clock == last {
				wantErr(t, clock, err, api.ErrFull)
				continue
			}
			wantErr(t, clock, err, api.OK)
			if o.Dot != (api.Dot{Site: 2, Seq: last}) || !slices.Equal(o.Deps, v(1, 2, 2, last-1)) {
				t.Errorf("%+v", o)
			}
			for k, call := range calls {
				want := api.ErrFull
				if i == 3 {
					want = api.ErrLeft
				}
				if k == 2 && i == 2 {
					want = api.ErrExists
				}
				_, err := call(b)
				wantErr(t, k, err, want)
			}
		}
	}
	for _, runes := range []int{1, 2, 1024} {
		for _, left := range []int{0, 1, 2, 3, 1023, 1024, 1025} {
			image := sparse(5, 3)
			image.Clock = last - left
			b := woken(t, c, image)
			o, err := b.insert(t, 5, strings.Repeat("é", runes))
			if runes > left {
				wantErr(t, [2]int{runes, left}, err, api.ErrFull)
				continue
			}
			wantErr(t, [2]int{runes, left}, err, api.OK)
			if o.ID != (api.ID{Time: last - left + 1, Site: 2}) || b.r.Sight().Clock != last-left+runes {
				t.Errorf("%+v", o.ID)
			}
			if left-runes < 1024 {
				_, err = b.insert(t, 0, strings.Repeat("a", left-runes+1))
				wantErr(t, "one more than is left", err, api.ErrFull)
			}
			if left > runes {
				b.mustInsert(t, 0, strings.Repeat("a", left-runes))
			}
			b.mustDelete(t, 0, 1)
		}
	}
}
