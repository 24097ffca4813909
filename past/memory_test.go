package past_test

import (
	"math/rand"
	"runtime"
	"slices"
	"strings"
	"testing"
	"unsafe"

	"hearsay/api"
	"hearsay/past"
)

// What is handed in has room behind its lists, in which something stands that would count; what is answered is spoilt, as far as its room goes. So whatever a call changes, or shares, shows.

// roomy is a list with room behind its end, in which something stands.
func roomy[L ~[]E, E any](list L, behind ...E) L {
	return append(append(make(L, 0, len(list)+len(behind)), list...), behind...)[:len(list)]
}

// whole is a list with the room behind its end.
func whole[L ~[]E, E any](list L) L { return list[:cap(list)] }

// spoil sets all of a list, its room too, to something else.
func spoil[L ~[]E, E any](list L, to E) {
	for i := range whole(list) {
		whole(list)[i] = to
	}
}

// spoilOps spoils operations, their lists too.
func spoilOps(ops []api.Op) {
	for _, o := range whole(ops) {
		spoil(o.Deps, dot(-7, -7))
		spoil(o.Gone, run(-7, -7, -7))
	}
	spoil(ops, api.Op{Kind: -7})
}

// roomyOps is operations with room behind the list, and behind the lists of each.
func roomyOps(ops []api.Op) []api.Op {
	list := roomy(ops, join(dot(9, 1), 9), api.Op{Kind: 9}, begin())
	for i, o := range whole(list) {
		whole(list)[i].Deps, whole(list)[i].Gone = roomy(o.Deps, dot(16, 1), dot(1, 9)), roomy(o.Gone, run(1, 1, 9), run(1, 2, 9))
	}
	return list
}

// wholeOps is operations in memory of their own, with the room behind all lists.
func wholeOps(ops []api.Op) []api.Op {
	var list []api.Op
	for _, o := range whole(ops) {
		o.Deps, o.Gone = whole(o.Deps), whole(o.Gone)
		list = append(list, clone(o))
	}
	return list
}

// answers is all that operations say.
type answers struct {
	closed  api.Errno
	upto    []api.Op
	text    string
	order   []api.ID
	members []int
	nodes   []api.Node
	errs    [4]api.Errno
}

func ask(ops []api.Op, v api.Vector) answers {
	a := answers{closed: past.Closed(ops), upto: past.Upto(ops, v)}
	a.text, a.errs[0] = past.Text(ops)
	a.order, a.errs[1] = past.Order(ops)
	a.members, a.errs[2] = past.Members(ops)
	a.nodes, a.errs[3] = past.Nodes(ops, v)
	return a
}

// wanted is what operations must say.
func wanted(ops []api.Op, v api.Vector) answers {
	err := wantClosed(ops)
	a := answers{closed: err, upto: wantUpto(ops, v), errs: [4]api.Errno{err, err, err, err}}
	if err != api.OK {
		return a
	}
	all := wantWhole(ops)
	a.text, a.order, a.members, a.errs[3] = textOf(all), idsOf(all), wantMembers(ops), wantBase(ops, v)
	if a.errs[3] == api.OK {
		a.nodes = wantNodes(all, ops, v)
	}
	return a
}

func (a answers) are(b answers) bool {
	return a.closed == b.closed && a.text == b.text && a.errs == b.errs && slices.EqualFunc(a.upto, b.upto, same) && slices.Equal(a.order, b.order) && slices.Equal(a.members, b.members) && slices.Equal(a.nodes, b.nodes)
}

func (a answers) spoil() {
	spoilOps(a.upto)
	spoil(a.order, id(-7, -7))
	spoil(a.members, -7)
	spoil(a.nodes, api.Node{Rune: -7})
}

// asked is a set of some kind, and a vector for it.
func (m maker) asked(n int) ([]api.Op, api.Vector) {
	ops := m.some()
	v := m.base(ops)
	if n%4 == 0 {
		ops = m.broken(ops)
	}
	return ops, v
}

// TestGivenStays: P24.10, W6: what is handed in stays as it was, the lists of each operation and the room behind all lists too; what stands there counts for nothing.
func TestGivenStays(t *testing.T) {
	m := maker{rand.New(rand.NewSource(2406))}
	for n := range rounds(1500) {
		ops, v := m.asked(n)
		given, base := roomyOps(ops), roomy(v, dot(16, 1), dot(1, 1))
		seen, seenBase := wholeOps(given), slices.Clone(whole(base))
		got, want := ask(given, base), wanted(ops, v)
		if !got.are(want) {
			t.Fatalf("%s, %v: %+v; want %+v", words(ops), v, got, want)
		}
		got.spoil()
		if !slices.EqualFunc(wholeOps(given), seen, same) || !slices.Equal(whole(base), seenBase) {
			t.Fatalf("%s, %v were handed in; they are %s, %v now", words(seen), seenBase, words(wholeOps(given)), whole(base))
		}
	}
}

// TestApart: P24.10, W6, W2: no answer shares anything with what was handed in, nor with another answer, the room behind its end too, nor does anything last from call to call.
func TestApart(t *testing.T) {
	m := maker{rand.New(rand.NewSource(2407))}
	lists := 0
	for n := range rounds(800) {
		ops, v := m.asked(n)
		given, base := roomyOps(ops), slices.Clone(v)
		want := wanted(ops, v)
		var list []answers
		for i := range 3 {
			list = append(list, ask(given, base))
			ask(m.asked(i))
		}
		spoilOps(given)
		spoil(base, dot(-7, -7))
		for i, a := range list {
			for _, later := range list[i:] {
				if !later.are(want) {
					t.Fatalf("%s, %v: an earlier answer is now %+v; it was %+v", words(ops), v, later, want)
				}
			}
			lists += len(a.upto) + len(a.order) + len(a.members) + len(a.nodes)
			a.spoil()
		}
		if again := ask(ops, v); !again.are(want) {
			t.Fatalf("%s, %v: %+v; it was %+v", words(ops), v, again, want)
		}
	}
	if lists < rounds(8000) {
		t.Errorf("%d items alone", lists)
	}
}

// TestUptoApart: P24.10, W6: the lists of the operations of one answer stand alone, though those that were handed in are parts of one another, and one operation is there twice; their texts too.
func TestUptoApart(t *testing.T) {
	deps, gone := vec(1, 1, 2, 1, 3, 1), runs(run(1, 1, 1), run(2, 2, 1), run(3, 3, 1))
	text := strings.Repeat("hé", 9)
	made := func() []api.Op {
		one := api.Op{Kind: api.OpDelete, Dot: dot(1, 2), Deps: deps[:1], Gone: gone[:2]}
		two := api.Op{Kind: api.OpDelete, Dot: dot(2, 2), Deps: deps[:2], Gone: gone}
		three := api.Op{Kind: api.OpInsert, Dot: dot(3, 2), Deps: deps, Gone: gone[1:1], Text: text}
		return []api.Op{one, two, three, two, three, one}
	}
	var want []api.Op
	for _, o := range made() {
		want = append(want, clone(o))
	}
	got, other := past.Upto(made(), vec(1, 2, 2, 2, 3, 2)), past.Upto(made(), vec(1, 2, 2, 2, 3, 2))
	spoil(deps, dot(-7, -7))
	spoil(gone, run(-7, -7, -7))
	for i, o := range got {
		for k, later := range got[i:] {
			if !same(later, want[i+k]) {
				t.Fatalf("%d is %+v, as those ahead of %d were spoilt; want %+v", i+k, later, i, want[i+k])
			}
		}
		spoil(o.Deps, dot(-7, -7))
		spoil(o.Gone, run(-7, -7, -7))
	}
	if !slices.EqualFunc(other, want, same) {
		t.Fatalf("another answer is %s; want %s", words(other), words(want))
	}
	texts := []string{text, got[2].Text, got[4].Text, other[2].Text}
	for i, s := range texts {
		for k, other := range texts[:i] {
			if s != text || unsafe.StringData(s) == unsafe.StringData(other) {
				t.Errorf("the texts %d and %d are one, %q and %q", k, i, other, s)
			}
		}
	}
}

// inUse is how many bytes are held on to.
func inUse() int {
	var m runtime.MemStats
	runtime.GC()
	runtime.ReadMemStats(&m)
	return int(m.HeapAlloc)
}

// TestNotKept: P24.10, W6: an answer does not hold on to what was handed in, not even where a list was empty.
func TestNotKept(t *testing.T) {
	const mega = 1 << 20
	var kept [][]api.Op
	before := inUse()
	for range 100 {
		ops := []api.Op{{Kind: api.OpLeave, Dot: dot(1, 1), Deps: make(api.Vector, 0, 4000), Gone: make([]api.Run, 0, 4000)}}
		kept = append(kept, past.Upto(ops, vec(1, 1)))
	}
	if all := inUse() - before; all > mega {
		t.Errorf("%d bytes are kept", all)
	}
	if len(kept[99]) != 1 {
		t.Error("nothing was answered")
	}
}
