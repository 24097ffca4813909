package roll_test

import (
	"fmt"
	"math"
	"slices"
	"testing"

	"hearsay/api"
	"hearsay/roll"
)

// What the chapter says, worked out a second time by other means: all calls are kept as they came, and nothing else. Who has joined, who has left and who was a member behind how many of the calls ever is worked out of them each time; the epoch is how often the members of one call and the next differ.

type model struct {
	past []call
}

// call is a Join or a Leave of a number, which may be no site.
type call struct {
	leave bool
	site  int
}

func join(site int) call  { return call{false, site} }
func leave(site int) call { return call{true, site} }

// sites is all sites there are.
func sites() []int { return []int{1, 2, 3, 4, 5, 6, 7, 8, 9, 10, 11, 12, 13, 14, 15, 16} }

// those is the sites of which something holds.
func those(holds func(site int) bool) []int {
	return slices.DeleteFunc(sites(), func(site int) bool { return !holds(site) })
}

func (m *model) joined() []int {
	return those(func(site int) bool { return slices.Contains(m.past, join(site)) })
}

func (m *model) left() []int {
	return those(func(site int) bool { return slices.Contains(m.past, leave(site)) })
}

// membersBehind is who was a member behind the first n calls.
func (m *model) membersBehind(n int) []int {
	return those(func(site int) bool {
		return slices.Contains(m.past[:n], join(site)) && !slices.Contains(m.past[:n], leave(site))
	})
}

func (m *model) members() []int { return m.membersBehind(len(m.past)) }

func (m *model) epoch() int {
	n := 0
	for i := range m.past {
		if !slices.Equal(m.membersBehind(i), m.membersBehind(i+1)) {
			n++
		}
	}
	return n
}

// do is what a call answers: whether the epoch is another one behind it.
func (m *model) do(c call) bool {
	before := m.epoch()
	m.past = append(m.past, c)
	return m.epoch() != before
}

// callsTo is calls on a new roll that lead to these lists and this epoch, and whether there are any. The lists are right ones. Each site's calls are sought by themselves: those that do both can be done in two orders, of which one does not count.
func callsTo(joined, left []int, epoch int) ([]call, bool) {
	var calls []call
	rest := epoch - len(those(func(site int) bool { return slices.Contains(joined, site) && !slices.Contains(left, site) }))
	for site := range 17 {
		j, l := slices.Contains(joined, site), slices.Contains(left, site)
		switch {
		case j && l && rest >= 2:
			rest -= 2
			calls = append(calls, join(site), leave(site))
		case j && l:
			calls = append(calls, leave(site), join(site))
		case j:
			calls = append(calls, join(site))
		case l:
			calls = append(calls, leave(site))
		}
	}
	if rest != 0 {
		return nil, false
	}
	return calls, true
}

// right tells whether a list is sites that rise.
func right(list []int) bool {
	return slices.Equal(list, those(func(site int) bool { return slices.Contains(list, site) }))
}

// wantLoad is which error Load answers, and the calls that lead to the roll.
func wantLoad(joined, left []int, epoch int) ([]call, api.Errno) {
	if !right(joined) || !right(left) || epoch < 0 {
		return nil, api.ErrArg
	}
	calls, ok := callsTo(joined, left, epoch)
	if !ok {
		return nil, api.ErrForm
	}
	return calls, api.OK
}

// edges is numbers about each limit there is, and such whose low bits are those of a site.
var edges = []int{
	math.MinInt, math.MinInt + 1, math.MinInt + 16, -1 << 32, -1<<32 + 1, -1 << 31, -64, -33, -32, -31, -17, -16, -15, -2, -1, 0, 1, 2, 3, 15, 16, 17, 18, 31, 32, 33, 34, 63, 64, 65, 66,
	127, 128, 129, 255, 256, 257, 1 << 16, 1<<16 + 1, 1 << 31, 1 << 32, 1<<32 + 1, 1<<32 + 16, math.MaxInt - 15, math.MaxInt - 1, math.MaxInt,
}

// both is a roll, and the same worked out a second time.
type both struct {
	roll  *roll.Roll
	model *model
}

// begun is a roll without anybody, to which some calls are made then.
func begun(t *testing.T, calls ...call) both {
	t.Helper()
	b := both{roll.New(), &model{}}
	for _, c := range calls {
		b.do(t, c)
	}
	return b
}

// do makes a call of a roll.
func do(r *roll.Roll, c call) bool {
	if c.leave {
		return r.Leave(c.site)
	}
	return r.Join(c.site)
}

// do makes a call twice over, holds what is answered against what it must be, and says it.
func (b both) do(t *testing.T, c call) bool {
	t.Helper()
	got := do(b.roll, c)
	if want := b.model.do(c); got != want {
		t.Errorf("%v: %v; want %v, behind %v", c, got, want, b.model.past)
	}
	return got
}

// must makes a call whose answer is written out.
func (b both) must(t *testing.T, c call, want bool) {
	t.Helper()
	if got := b.do(t, c); got != want {
		t.Errorf("%v: %v; want %v", c, got, want)
	}
}

// loaded is the roll that Load makes of what a roll tells.
func loaded(t *testing.T, r *roll.Roll) *roll.Roll {
	t.Helper()
	l, err := roll.Load(r.Joined(), r.Left(), r.Epoch())
	if err != api.OK || l == nil {
		t.Fatalf("Load(%v, %v, %d): %v, error %d", r.Joined(), r.Left(), r.Epoch(), l, int(err))
	}
	return l
}

// again is the same roll made by Load, beside what it must be.
func (b both) again(t *testing.T) both {
	t.Helper()
	return both{loaded(t, b.roll), &model{slices.Clone(b.model.past)}}
}

// told is all that a roll tells, of numbers that are no sites too.
type told struct {
	joined, left, members []int
	has, known            []int
	epoch                 int
}

// tell is what a roll tells; the lists that it answered are spoilt.
func tell(r *roll.Roll) told {
	x := told{joined: kept(r.Joined()), left: kept(r.Left()), members: kept(r.Members()), epoch: r.Epoch()}
	for _, n := range slices.Concat(sites(), edges) {
		if r.Has(n) {
			x.has = append(x.has, n)
		}
		if r.Known(n) {
			x.known = append(x.known, n)
		}
	}
	return x
}

// mustTell is what it must tell.
func (m *model) mustTell() told {
	x := told{joined: m.joined(), left: m.left(), members: m.members(), epoch: m.epoch()}
	for _, n := range slices.Concat(sites(), edges) {
		if slices.Contains(x.members, n) {
			x.has = append(x.has, n)
		}
		if slices.Contains(x.joined, n) || slices.Contains(x.left, n) {
			x.known = append(x.known, n)
		}
	}
	return x
}

// wantTold holds what a roll tells against what it must tell.
func wantTold(t *testing.T, about any, got, want told) {
	t.Helper()
	if fmt.Sprint(got) != fmt.Sprint(want) {
		t.Errorf("%v: %+v; want %+v", about, got, want)
	}
}

// wantRoll holds all that a roll tells against what it must tell, twice, as asking changes nothing; and what Load makes of it.
func (b both) wantRoll(t *testing.T) {
	t.Helper()
	want := b.model.mustTell()
	wantTold(t, b.model.past, tell(b.roll), want)
	wantTold(t, b.model.past, tell(b.roll), want)
	wantTold(t, "Load", tell(loaded(t, b.roll)), want)
}

// wantLists holds the lists and the epoch of a roll against what is written out.
func (b both) wantLists(t *testing.T, members, joined, left []int, epoch int) {
	t.Helper()
	r := b.roll
	if !slices.Equal(r.Members(), members) || !slices.Equal(r.Joined(), joined) || !slices.Equal(r.Left(), left) || r.Epoch() != epoch {
		t.Errorf("%v %v %v %d; want %v %v %v %d", r.Members(), r.Joined(), r.Left(), r.Epoch(), members, joined, left, epoch)
	}
}

// load calls Load of lists with room behind their ends, holds that they are unchanged and what is answered against what it must be, and spoils them.
func load(t *testing.T, joined, left []int, epoch int) (both, api.Errno) {
	t.Helper()
	j, l := roomy(joined), roomy(left)
	r, err := roll.Load(j, l, epoch)
	wantUnchanged(t, j, joined)
	wantUnchanged(t, l, left)
	spoil(j)
	spoil(l)
	calls, want := wantLoad(joined, left, epoch)
	wantErr(t, call3{joined, left, epoch}, err, want)
	if (r != nil) != (err == api.OK) {
		t.Errorf("%v: %v beside the error %d", call3{joined, left, epoch}, r, int(err))
	}
	return both{r, &model{calls}}, err
}

// call3 is what Load was given, in few words.
type call3 struct {
	joined, left []int
	epoch        int
}

func (c call3) String() string {
	return fmt.Sprintf("Load(%v.., %v.., %d)", c.joined[:min(20, len(c.joined))], c.left[:min(20, len(c.left))], c.epoch)
}

// roomy is a copy of a list with room behind its end, which has something in it.
func roomy(list []int) []int {
	room := slices.Concat(list, []int{-55, -55, -55})
	return room[:len(list)]
}

// wantUnchanged holds a list with room against what it was.
func wantUnchanged(t *testing.T, list, was []int) {
	t.Helper()
	if !slices.Equal(list[:len(list)+3], slices.Concat(was, []int{-55, -55, -55})) {
		t.Errorf("what was handed in is now %v, with its room; it was %v", list[:len(list)+3], was)
	}
}

// kept is a list that was answered, which is spoilt then, as far as its room goes.
func kept(list []int) []int {
	was := slices.Clone(list)
	spoil(list)
	return was
}

func spoil(list []int) {
	list = list[:cap(list)]
	for i := range list {
		list[i] = -77
	}
}

// wantErr holds an error against what it must be.
func wantErr(t *testing.T, about any, got, want api.Errno) {
	t.Helper()
	if got != want {
		t.Errorf("%v: error %d; want %d", about, int(got), int(want))
	}
}
