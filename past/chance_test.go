package past_test

import (
	"math/rand"
	"slices"
	"testing"

	"hearsay/api"
	"hearsay/past"
	"hearsay/stamp"
)

// maker makes sets of operations.
type maker struct{ chance *rand.Rand }

// shuffled is a list in another order.
func shuffled[T any](m maker, list []T) []T {
	list = slices.Clone(list)
	m.chance.Shuffle(len(list), func(i, k int) { list[i], list[k] = list[k], list[i] })
	return list
}

// rounds is how many sets there are.
func rounds(n int) int {
	if testing.Short() {
		return n / 8
	}
	return n
}

// id is an identifier: mostly one of some that are there, else one of few.
func (m maker) id(there []api.ID, sites int) api.ID {
	if len(there) > 0 && m.chance.Intn(4) > 0 {
		return there[m.chance.Intn(len(there))]
	}
	return id(1+m.chance.Intn(9), 1+m.chance.Intn(sites))
}

// fill gives an operation of a dot what it has beside its Deps, mostly an insert or a delete.
func (m maker) fill(o api.Op, there []api.ID, sites int) api.Op {
	switch kind := m.chance.Intn(12); {
	case kind < 6:
		o.Kind, o.ID = api.OpInsert, id(1+m.chance.Intn(9), o.Dot.Site)
		if m.chance.Intn(4) > 0 {
			o.Ref = m.id(there, sites)
			o.ID.Time = o.Ref.Time + 1 + m.chance.Intn(3)
		}
		letters := []rune("abcdefghé€𝄞")
		for range 1 + m.chance.Intn(3) {
			o.Text += string(letters[m.chance.Intn(len(letters))])
		}
	case kind < 9:
		o.Kind = api.OpDelete
		var ids []api.ID
		for range 1 + m.chance.Intn(8) {
			ids = append(ids, m.id(there, sites))
		}
		o.Gone = stamp.Pack(ids)
	case kind < 11:
		o.Kind, o.Site = api.OpJoin, 1+m.chance.Intn(sites+1)
	default:
		o.Kind = api.OpLeave
	}
	return o
}

// wild is a closed set of operations of some sites that nobody would issue; with rings some may need one another.
func (m maker) wild(sites, most int, rings bool) []api.Op {
	var turns []int
	for site := range sites {
		turns = append(turns, slices.Repeat([]int{site + 1}, m.chance.Intn(most+1))...)
	}
	counts, all := make([]int, sites+1), make([]int, sites+1)
	for _, site := range turns {
		all[site]++
	}
	var ops []api.Op
	var there []api.ID
	for _, site := range shuffled(m, turns) {
		o := api.Op{Dot: dot(site, counts[site]+1)}
		for other := 1; other <= sites; other++ {
			need := m.chance.Intn(counts[other] + 1)
			if rings && m.chance.Intn(4) == 0 {
				need = m.chance.Intn(all[other] + 1)
			}
			if other == site {
				need = counts[site]
			}
			if need > 0 && (other == site || m.chance.Intn(2) == 0) {
				o.Deps = append(o.Deps, dot(other, need))
			}
		}
		counts[site]++
		o = m.fill(o, there, sites)
		for i := range []rune(o.Text) {
			there = append(there, id(o.ID.Time+i, site))
		}
		ops = append(ops, o)
	}
	return shuffled(m, ops)
}

// some is a set of one to four sites, seldom with rings.
func (m maker) some() []api.Op {
	return m.wild(1+m.chance.Intn(4), 1+m.chance.Intn(8), m.chance.Intn(3) == 0)
}

// base is mostly what a closed set has of operations that are closed themselves, at times any vector, or none.
func (m maker) base(ops []api.Op) api.Vector {
	var counts [api.MaxSites + 2]int
	for _, o := range ops {
		if m.chance.Intn(3) > 0 {
			counts[o.Dot.Site] = max(counts[o.Dot.Site], o.Dot.Seq)
		}
	}
	for range m.chance.Intn(20) {
		for _, o := range ops {
			if o.Dot.Seq > counts[o.Dot.Site] {
				continue
			}
			for _, d := range o.Deps {
				counts[d.Site] = max(counts[d.Site], d.Seq)
			}
		}
	}
	if m.chance.Intn(8) == 0 {
		counts[m.chance.Intn(6)] += m.chance.Intn(2)
	}
	if m.chance.Intn(8) == 0 {
		counts[1+m.chance.Intn(5)] = m.chance.Intn(4)
	}
	var v api.Vector
	for site, seq := range counts {
		if seq > 0 {
			v = append(v, dot(site, seq))
		}
	}
	if m.chance.Intn(20) == 0 {
		v = shuffled(m, v)
	}
	return v
}

// broken is a set with something done to it that may make it none, or not closed.
func (m maker) broken(ops []api.Op) []api.Op {
	ops = slices.Clone(ops)
	for range 1 + m.chance.Intn(2) {
		if len(ops) == 0 {
			return ops
		}
		at := m.chance.Intn(len(ops))
		switch m.chance.Intn(6) {
		case 0:
			ops = slices.Delete(ops, at, at+1)
		case 1:
			ops = slices.Insert(ops, m.chance.Intn(len(ops)+1), ops[at])
		case 2:
			ops[at].Dot.Seq += m.chance.Intn(3) - 1
		case 3:
			ops[at].Kind = m.chance.Intn(6)
		case 4:
			ops[at].Deps = append(slices.Clone(ops[at].Deps), dot(5+m.chance.Intn(13), m.chance.Intn(3)))
		default:
			ops[at] = bad()[m.chance.Intn(len(bad()))]
		}
	}
	return ops
}

// TestWild: P24.1 to P24.6: many sets, closed and not, both ways, in several orders, with bases.
func TestWild(t *testing.T) {
	m := maker{rand.New(rand.NewSource(2401))}
	saw := map[string]int{}
	errs := map[api.Errno]int{}
	for n := range rounds(6000) {
		ops := m.some()
		bases := []api.Vector{nil, m.base(ops), m.base(ops), m.base(ops)}
		if n%3 == 0 {
			ops = m.broken(ops)
		}
		err := both(t, ops, bases...)
		errs[err]++
		wantAnyOrder(t, m, ops, bases, 2)
		if err != api.OK {
			continue
		}
		for what, times := range done(ops).idle {
			saw[what] += min(times, 1)
		}
		if len(wantRow(ops)) < len(ops) {
			saw["need one another"]++
		}
		for _, base := range bases {
			nodes, err := withBase(t, ops, base)
			errs[100+err]++
			if len(nodes) < len(wantWhole(ops)) && err == api.OK {
				saw["left out"]++
			}
			for _, n := range nodes {
				saw[[]string{"", "shown", "deleted", "settled"}[n.State]]++
			}
		}
	}
	for _, err := range []api.Errno{api.OK, api.ErrOp, api.ErrExists, api.ErrClosed, 100, 100 + api.ErrArg, 100 + api.ErrOrder, 100 + api.ErrClosed} {
		if errs[err] < rounds(80) {
			t.Errorf("error %d came up %d times", int(err), errs[err])
		}
	}
	for _, what := range []string{"its place not there", "there already", "deleted already", "nothing to delete", "need one another", "left out", "shown", "deleted", "settled"} {
		if saw[what] < rounds(160) {
			t.Errorf("%s: %d times", what, saw[what])
		}
	}
}

// wantAnyOrder: P24.6: no answer hangs on the order of the operations, but that of Upto, which is theirs.
func wantAnyOrder(t *testing.T, m maker, ops []api.Op, bases []api.Vector, times int) {
	t.Helper()
	for range times {
		wantAlike(t, ops, shuffled(m, ops), bases)
	}
}

// wantAlike holds all that operations say in one order against all that they say in another one.
func wantAlike(t *testing.T, ops, other []api.Op, bases []api.Vector) {
	t.Helper()
	text, err := past.Text(ops)
	otherText, otherErr := past.Text(other)
	wantSame(t, "Text, in another order,", other, []string{otherText}, []string{text}, otherErr, err)
	ids, err := past.Order(ops)
	otherIDs, otherErr := past.Order(other)
	wantSame(t, "Order, in another order,", other, otherIDs, ids, otherErr, err)
	members, err := past.Members(ops)
	otherMembers, otherErr := past.Members(other)
	wantSame(t, "Members, in another order,", other, otherMembers, members, otherErr, err)
	wantSame[int](t, "Closed, in another order,", other, nil, nil, past.Closed(other), past.Closed(ops))
	for _, base := range bases {
		nodes, err := past.Nodes(ops, base)
		otherNodes, otherErr := past.Nodes(other, base)
		wantSame(t, "Nodes, in another order,", other, otherNodes, nodes, otherErr, err)
		upto := past.Upto(other, base)
		if want := wantUpto(other, base); !slices.EqualFunc(upto, want, same) {
			t.Fatalf("Upto(%s; %v): %s; want %s", words(other), base, words(upto), words(want))
		}
	}
}

// TestAllOrders: P24.6: all orders of short lists.
func TestAllOrders(t *testing.T) {
	m := maker{rand.New(rand.NewSource(2402))}
	long := 0
	for n := range rounds(160) {
		ops := m.some()
		if n%2 == 0 {
			ops = m.wild(1+m.chance.Intn(3), 2, n%8 == 0)
		}
		ops = ops[:min(len(ops), 5)]
		bases := []api.Vector{nil, m.base(ops), m.base(ops)}
		both(t, ops, bases...)
		for _, other := range orders(ops) {
			wantAlike(t, ops, other, bases)
		}
		if len(ops) > 2 {
			long++
		}
	}
	if long < rounds(60) {
		t.Errorf("%d lists had more than two", long)
	}
}

// TestRows: the Words: the row of many sets, both ways.
func TestRows(t *testing.T) {
	m := maker{rand.New(rand.NewSource(2403))}
	for range rounds(1500) {
		ops := m.wild(1+m.chance.Intn(6), 1+m.chance.Intn(4), m.chance.Intn(3) == 0)
		var got []api.Op
		never := 0
		for o, went := range past.Row(ops) {
			if went {
				got = append(got, o)
			} else {
				never++
			}
		}
		if want := wantRow(ops); !slices.EqualFunc(got, want, same) || len(got)+never != len(ops) {
			t.Fatalf("the row of %s: %s, and %d never; want %s", words(ops), words(got), never, words(want))
		}
	}
}

// TestStates: P24.8: of wild sets too: without a base all elements are there; with a greater base there are no more, no state is another one but settled, and those that are shown are the text's.
func TestStates(t *testing.T) {
	m := maker{rand.New(rand.NewSource(2404))}
	fewer, settled := 0, 0
	for range rounds(3000) {
		ops := m.wild(1+m.chance.Intn(4), 1+m.chance.Intn(6), m.chance.Intn(8) == 0)
		var bases []api.Vector
		for range 6 {
			if base := m.base(ops); wantBase(ops, base) == api.OK {
				bases = append(bases, base)
			}
		}
		fewer += wantBasesFit(t, ops, bases, &settled)
	}
	if fewer < rounds(600) || settled < rounds(600) {
		t.Errorf("%d bases left something out, %d elements became settled", fewer, settled)
	}
}

// wantBasesFit: P24.8: what operations say behind each of some bases, and behind nothing, held against one another; it answers how often a greater base has fewer elements, and counts those that it settles.
func wantBasesFit(t *testing.T, ops []api.Op, bases []api.Vector, settled *int) int {
	t.Helper()
	order, _ := past.Order(ops)
	text, _ := past.Text(ops)
	bases = append([]api.Vector{nil}, bases...)
	kept := make([][]api.Node, len(bases))
	for i, base := range bases {
		nodes, err := past.Nodes(ops, base)
		if err != api.OK || textOf(nodes) != text {
			t.Fatalf("Nodes(%s, %v): %v, error %d; the text is %q", words(ops), base, nodes, int(err), text)
		}
		kept[i] = nodes
	}
	if !slices.Equal(idsOf(kept[0]), order) {
		t.Fatalf("Nodes(%s, nothing): %v; the order is %v", words(ops), kept[0], order)
	}
	fewer := 0
	for i, lesser := range bases {
		for k, greater := range bases {
			if !covers(greater, lesser) {
				continue
			}
			if !comeOf(kept[k], kept[i], settled) {
				t.Fatalf("%s: base %v: %v; base %v: %v", words(ops), lesser, kept[i], greater, kept[k])
			}
			if len(kept[k]) < len(kept[i]) {
				fewer++
			}
		}
	}
	return fewer
}

// covers tells whether a vector says no less than another one.
func covers(a, b api.Vector) bool {
	return !slices.ContainsFunc(b, func(d api.Dot) bool { return says(a, d.Site) < d.Seq })
}

// comeOf tells whether some elements are others with some left out and some settled; it counts these.
func comeOf(less, more []api.Node, settled *int) bool {
	at := 0
	for _, n := range more {
		if at == len(less) || less[at].ID != n.ID {
			continue
		}
		if less[at] != n {
			n.State = api.StateSettled
			*settled++
		}
		if less[at] != n {
			return false
		}
		at++
	}
	return at == len(less)
}
