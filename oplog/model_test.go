package oplog_test

import (
	"iter"
	"reflect"
	"slices"
	"strings"
	"testing"

	"hearsay/api"
	"hearsay/op"
	"hearsay/oplog"
)

// What the chapter says, worked out a second time by other means: nothing is ever forgotten. A log is what it began with, all that was ever added and all that it was ever cut to; what it has and what it keeps is asked of these each time, operation by operation.

type model struct {
	began api.Vector
	added []api.Op
	cuts  []api.Vector
}

// says is how many operations of a site a vector has.
func says(v api.Vector, site int) int {
	for _, d := range v {
		if d.Site == site {
			return d.Seq
		}
	}
	return 0
}

func has(v api.Vector, d api.Dot) bool { return d.Seq <= says(v, d.Site) }

// each is the vector that says this of each site.
func each(count func(site int) int) api.Vector {
	var v api.Vector
	for site := 1; site <= api.MaxSites; site++ {
		if n := count(site); n != 0 {
			v = append(v, dot(site, n))
		}
	}
	return v
}

func merged(a, b api.Vector) api.Vector {
	return each(func(site int) int { return max(says(a, site), says(b, site)) })
}

func sum(v api.Vector) int {
	n := 0
	for _, d := range v {
		n += d.Seq
	}
	return n
}

// wantCheck is the first one of all that stands against a list of Dots.
func wantCheck(v api.Vector) api.Errno {
	var all []api.Errno
	for i, d := range v {
		if d.Site < 1 || d.Site > 16 {
			all = append(all, api.ErrArg)
		}
		if d.Seq < 1 || d.Seq>>31 != 0 {
			all = append(all, api.ErrForm)
		}
		if i > 0 && d.Site <= v[i-1].Site {
			all = append(all, api.ErrOrder)
		}
	}
	return append(all, api.OK)[0]
}

// count is how many operations of a site the log has: those ahead of it, and each that was added.
func (m *model) count(site int) int {
	n := says(m.began, site)
	for _, o := range m.added {
		if o.Dot.Site == site {
			n++
		}
	}
	return n
}

func (m *model) vector() api.Vector { return each(m.count) }

func (m *model) base() api.Vector {
	v := m.began
	for _, c := range m.cuts {
		v = merged(v, c)
	}
	return v
}

// kept is what was added and no cut has.
func (m *model) kept() []api.Op {
	var l []api.Op
	for _, o := range m.added {
		if !slices.ContainsFunc(m.cuts, func(c api.Vector) bool { return has(c, o.Dot) }) {
			l = append(l, o)
		}
	}
	return l
}

func (m *model) beyond(have api.Vector) []api.Op {
	if wantCheck(have) != api.OK {
		return nil
	}
	return slices.DeleteFunc(m.kept(), func(o api.Op) bool { return has(have, o.Dot) })
}

func (m *model) lacksAny(v api.Vector) bool {
	return slices.ContainsFunc(v, func(d api.Dot) bool { return d.Seq > m.count(d.Site) })
}

func (m *model) add(o api.Op) api.Errno {
	switch {
	case op.Check(o) != api.OK:
		return api.ErrOp
	case m.lacksAny(o.Deps) || m.count(o.Dot.Site)+1 != o.Dot.Seq:
		return api.ErrOrder
	}
	m.added = append(m.added, clone(o))
	return api.OK
}

func (m *model) cut(upto api.Vector) ([]api.Op, api.Errno) {
	if err := wantCheck(upto); err != api.OK {
		return nil, err
	}
	if m.lacksAny(upto) {
		return nil, api.ErrOrder
	}
	gone := slices.DeleteFunc(m.kept(), func(o api.Op) bool { return !has(upto, o.Dot) })
	m.cuts = append(m.cuts, slices.Clone(upto))
	return gone, api.OK
}

// clone is the same operation in memory of its own.
func clone(o api.Op) api.Op {
	o.Deps, o.Gone, o.Text = slices.Clone(o.Deps), slices.Clone(o.Gone), strings.Clone(o.Text)
	return o
}

// same tells whether two operations are the same; a nil list and an empty one are.
func same(a, b api.Op) bool {
	lists := slices.Equal(a.Deps, b.Deps) && slices.Equal(a.Gone, b.Gone)
	a.Deps, a.Gone, b.Deps, b.Gone = nil, nil, nil, nil
	return lists && reflect.DeepEqual(a, b)
}

// What is handed in has spare room, and is spoilt behind the call; so is what was answered, as far as its room goes. So whatever a log shares shows in whatever is asked of it later.

// roomy is a list with room behind its end, in which something stands.
func roomy[L ~[]E, E any](list L, junk E) L {
	room := append(slices.Clone(list), junk, junk, junk)
	return room[: len(list) : len(list)+3]
}

var (
	junkDot = dot(-77, -78)
	junkRun = run(-79, -80, -81)
)

func roomyOp(o api.Op) api.Op {
	o.Deps, o.Gone = roomy(o.Deps, junkDot), roomy(o.Gone, junkRun)
	return o
}

// whole is an operation whose lists reach to the end of their room.
func whole(o api.Op) api.Op {
	o.Deps, o.Gone = o.Deps[:cap(o.Deps)], o.Gone[:cap(o.Gone)]
	return o
}

func spoil[L ~[]E, E any](list L, junk E) {
	list = list[:cap(list)]
	for i := range list {
		list[i] = junk
	}
}

func spoilOp(o api.Op) {
	spoil(o.Deps, junkDot)
	spoil(o.Gone, junkRun)
}

// vectorOf is a vector that was answered, which is spoilt then.
func vectorOf(v api.Vector) api.Vector {
	kept := slices.Clone(v)
	spoil(v, junkDot)
	return kept
}

// opsOf is operations that were answered, which are spoilt then.
func opsOf(ops []api.Op) []api.Op {
	var l []api.Op
	for _, o := range ops {
		l = append(l, clone(o))
		spoilOp(o)
	}
	spoil(ops, api.Op{Kind: -1})
	return l
}

// through is what an iterator hands on; each operation is spoilt as soon as the next one is asked for.
func through(ops iter.Seq[api.Op]) []api.Op {
	var l []api.Op
	for o := range ops {
		l = append(l, clone(o))
		spoilOp(o)
	}
	return l
}

// both is a log, and the same worked out a second time.
type both struct {
	log   *oplog.Log
	model *model
}

// begun is a log with a base and these operations, all of which it must take.
func begun(t *testing.T, base api.Vector, ops ...api.Op) both {
	t.Helper()
	given := roomy(base, junkDot)
	l, err := oplog.New(given)
	wantErr(t, base, err, api.OK)
	spoil(given, junkDot)
	b := both{l, &model{began: slices.Clone(base)}}
	for _, o := range ops {
		wantErr(t, o, b.add(t, o), api.OK)
	}
	return b
}

// add adds an operation twice over, holds the error against what it must be, and says it.
func (b both) add(t *testing.T, o api.Op) api.Errno {
	t.Helper()
	given := roomyOp(o)
	got := b.log.Add(given)
	wantErr(t, o, got, b.model.add(o))
	if !same(whole(given), whole(roomyOp(o))) {
		t.Errorf("Add has made %+v of %+v", whole(given), o)
	}
	spoilOp(given)
	return got
}

// cut cuts twice over, holds what is answered against what it must be, and says it.
func (b both) cut(t *testing.T, upto api.Vector) ([]api.Op, api.Errno) {
	t.Helper()
	given := roomy(upto, junkDot)
	ops, err := b.log.Cut(given)
	got := opsOf(ops)
	want, wantE := b.model.cut(upto)
	wantErr(t, upto, err, wantE)
	wantOps(t, "Cut", got, want)
	if err != api.OK && ops != nil {
		t.Errorf("Cut(%v): operations beside an error: %v", upto, ops)
	}
	wantUnchanged(t, "Cut", given, upto)
	spoil(given, junkDot)
	return got, err
}

// beyond asks Beyond and Lacks, holds what they answer against what it must be, and says it.
func (b both) beyond(t *testing.T, have api.Vector) []api.Op {
	t.Helper()
	given, again := roomy(have, junkDot), roomy(have, junkDot)
	it := b.log.Beyond(given)
	lacks := b.log.Lacks(again)
	wantUnchanged(t, "Beyond", given, have)
	wantUnchanged(t, "Lacks", again, have)
	spoil(given, junkDot)
	got, want := through(it), b.model.beyond(have)
	wantOps(t, "Beyond", got, want)
	if lacks != len(want) {
		t.Errorf("Lacks(%v): %d; want %d", have, lacks, len(want))
	}
	return got
}

// wantUnchanged holds a list that was handed in, and its spare room, against what it was.
func wantUnchanged(t *testing.T, what string, given, was api.Vector) {
	t.Helper()
	if !slices.Equal(given[:cap(given)], append(slices.Clone(was), junkDot, junkDot, junkDot)) {
		t.Errorf("%s has made %v of %v", what, given[:cap(given)], was)
	}
}

// wantErr holds an error against what it must be.
func wantErr(t *testing.T, about any, got, want api.Errno) {
	t.Helper()
	if got != want {
		t.Errorf("%+v: error %d; want %d", about, int(got), int(want))
	}
}

// wantVector holds an answered vector against what it must be.
func wantVector(t *testing.T, what string, got, want api.Vector) {
	t.Helper()
	if !slices.Equal(got, want) {
		t.Errorf("%s: %v; want %v", what, got, want)
	}
}

// wantOps holds operations against what they must be, whole.
func wantOps(t *testing.T, what string, got, want []api.Op) {
	t.Helper()
	if !slices.EqualFunc(got, want, same) {
		t.Errorf("%s: %+v; want %+v", what, got, want)
	}
}

// wantLog holds what a log tells of itself against what it must be, and against P12.6.
func wantLog(t *testing.T, b both) {
	t.Helper()
	base, vector, count := vectorOf(b.log.Base()), vectorOf(b.log.Vector()), b.log.Len()
	kept := b.model.kept()
	wantVector(t, "Base", base, b.model.base())
	wantVector(t, "Vector", vector, b.model.vector())
	if count != len(kept) || sum(vector)-sum(base) != count {
		t.Errorf("Len: %d; want %d, of %v above %v", count, len(kept), vector, base)
	}
	if !slices.Equal(merged(vector, base), vector) {
		t.Errorf("%v does not cover %v", vector, base)
	}
	all := b.beyond(t, base)
	wantOps(t, "all that is kept", all, kept)
	wantOps(t, "all that is kept", b.beyond(t, nil), kept)
	wantOps(t, "what a log's own vector does not have", b.beyond(t, vector), nil)
	wantBehind(t, base, all)
}

// wantBehind holds the order of what is kept against P12.6: each comes behind all that its Deps have and the base has not.
func wantBehind(t *testing.T, base api.Vector, all []api.Op) {
	t.Helper()
	for i, o := range all {
		for _, d := range o.Deps {
			for seq := says(base, d.Site) + 1; seq <= d.Seq; seq++ {
				if !slices.ContainsFunc(all[:i], func(x api.Op) bool { return x.Dot == dot(d.Site, seq) }) {
					t.Errorf("%v does not come behind %d.%d, on which it depends", o.Dot, d.Site, seq)
					return // of a wrong base there may be very many
				}
			}
		}
	}
}

// wantCausal holds what Beyond handed on against P12.7: none comes ahead of another one that it depends on.
func wantCausal(t *testing.T, ops []api.Op) {
	t.Helper()
	for i, o := range ops {
		for _, later := range ops[i:] {
			if has(o.Deps, later.Dot) {
				t.Errorf("%v comes ahead of %v, on which it depends", o.Dot, later.Dot)
			}
		}
	}
}

// wantEvery holds Beyond and Lacks of every vector about what a log has against what they must be.
func wantEvery(t *testing.T, b both) {
	t.Helper()
	for _, have := range about(b.model.base(), b.model.vector()) {
		wantCausal(t, b.beyond(t, have))
	}
}

// about is every vector about a base and what a log has: of each of its sites nothing, one, and all from one below the base to one beyond the log's; of the last site there is too, though the log may have nothing of it.
func about(base, vector api.Vector) []api.Vector {
	sites := slices.Clone(vector)
	if says(vector, api.MaxSites) == 0 {
		sites = append(sites, dot(api.MaxSites, 0))
	}
	all := []api.Vector{nil}
	for _, d := range sites {
		seqs := []int{1}
		for seq := max(says(base, d.Site)-1, 2); seq <= min(d.Seq+1, api.MaxSeq); seq++ {
			seqs = append(seqs, seq)
		}
		for _, v := range all[:len(all):len(all)] {
			for _, seq := range seqs {
				all = append(all, append(slices.Clone(v), dot(d.Site, seq)))
			}
		}
	}
	return all
}
