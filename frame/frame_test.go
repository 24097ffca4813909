package frame_test

import (
	"bytes"
	"hash/crc32"
	"math"
	"math/rand"
	"reflect"
	"slices"
	"testing"

	"hearsay/api"
	"hearsay/frame"
)

func dot(site, seq int) api.Dot { return api.Dot{Site: site, Seq: seq} }

func id(time, site int) api.ID { return api.ID{Time: time, Site: site} }

func run(time, site, count int) api.Run { return api.Run{ID: id(time, site), Count: count} }

// vec is the list of these Sites and Seqs, one behind the other.
func vec(numbers ...int) api.Vector {
	var v api.Vector
	for pair := range slices.Chunk(numbers, 2) {
		v = append(v, dot(pair[0], pair[1]))
	}
	return v
}

func node(of, ref api.ID, r rune, state int) api.Node {
	return api.Node{ID: of, Ref: ref, Rune: r, State: state}
}

var beginning api.ID

// example is the frame of the chapter's examples; each call makes a new one, as of all of these.
func example() api.Frame {
	return api.Frame{Kind: api.FrameOps, From: 1, To: 2, Num: 3, Got: 4, Credit: 5, Answer: true, Have: vec(1, 7)}
}

func leave() api.Op { return api.Op{Kind: api.OpLeave, Dot: dot(1, 1)} }

// busy is a frame with operations of each kind.
func busy() api.Frame {
	return api.Frame{
		Kind: api.FrameOps, From: 16, To: 2, Num: 300, Got: 0, Credit: 200, Have: vec(1, 4, 2, 300, 16, 8),
		Ops: []api.Op{
			{Kind: api.OpInsert, Dot: dot(2, 2), Deps: vec(1, 4, 2, 1), ID: id(9, 2), Ref: id(3, 1), Text: "é𝄞"},
			{Kind: api.OpJoin, Dot: dot(1, 5), Deps: vec(1, 4), Site: 3},
			{Kind: api.OpDelete, Dot: dot(3, 1), Deps: vec(1, 5, 2, 2), Gone: []api.Run{run(2, 1, 1), run(9, 2, 2)}},
			{Kind: api.OpLeave, Dot: dot(16, 8), Deps: vec(2, 2, 16, 7)},
		},
	}
}

// small is an image of two operations and two nodes.
func small() api.Image {
	return api.Image{
		Vector: vec(1, 2), Clock: 2, Log: []api.Op{{Kind: api.OpJoin, Dot: dot(1, 1), Site: 1}, {Kind: api.OpInsert, Dot: dot(1, 2), Deps: vec(1, 1), ID: id(1, 1), Text: "hé"}},
		Nodes:  []api.Node{node(id(1, 1), beginning, 'h', api.StateShown), node(id(2, 1), id(1, 1), 'é', api.StateShown)},
		Joined: []int{1}, Epoch: 1,
	}
}

// brief is a frame with that image.
func brief() api.Frame {
	return api.Frame{Kind: api.FrameImage, From: 1, To: 2, Num: 1, Credit: 256, Have: vec(1, 2), Image: small()}
}

// full is a frame with an image of all that there may be.
func full() api.Frame {
	m := api.Image{
		Vector: vec(1, 5, 2, 3, 3, 1, 16, 8), Base: vec(1, 4, 2, 1, 16, 7), Clock: 12,
		Log: append(busy().Ops, api.Op{Kind: api.OpInsert, Dot: dot(2, 3), Deps: vec(2, 2), ID: id(11, 2), Ref: beginning, Text: "x"}),
		Nodes: []api.Node{
			node(id(11, 2), beginning, 'x', api.StateShown), node(id(1, 1), beginning, 'a', api.StateSettled), node(id(3, 1), id(1, 1), 'b', api.StateShown),
			node(id(9, 2), id(3, 1), 'é', api.StateDeleted), node(id(10, 2), id(9, 2), '𝄞', api.StateDeleted), node(id(2, 16), id(1, 1), 0, api.StateShown),
		},
		Joined: []int{1, 2, 3, 16}, Left: []int{4, 16}, Epoch: 5,
	}
	return api.Frame{Kind: api.FrameImage, From: 3, To: 16, Num: 0, Got: api.MaxNum, Credit: 0, Answer: true, Have: vec(1, 5, 2, 3, 3, 1, 16, 8), Image: m}
}

// plain is the least frame of each kind.
func plain(kind int) api.Frame { return api.Frame{Kind: kind, From: 1, To: 2} }

func frames() []api.Frame {
	return []api.Frame{plain(api.FrameOps), plain(api.FrameImage), example(), busy(), brief(), full()}
}

func cloneOps(ops []api.Op) []api.Op {
	ops = slices.Clone(ops)
	for i := range ops {
		o := &ops[i]
		o.Deps, o.Gone = slices.Clone(o.Deps), slices.Clone(o.Gone)
	}
	return ops
}

func clone(f api.Frame) api.Frame {
	f.Have, f.Ops = slices.Clone(f.Have), cloneOps(f.Ops)
	m := &f.Image
	m.Vector, m.Base, m.Nodes, m.Joined, m.Left = slices.Clone(m.Vector), slices.Clone(m.Base), slices.Clone(m.Nodes), slices.Clone(m.Joined), slices.Clone(m.Left)
	m.Log = cloneOps(m.Log)
	return f
}

// nilled is a list that is nil, if it is empty.
func nilled[L ~[]T, T any](l L) L { return append(L(nil), l...) }

func nilledOps(ops []api.Op) []api.Op {
	ops = nilled(ops)
	for i := range ops {
		o := &ops[i]
		o.Deps, o.Gone = nilled(o.Deps), nilled(o.Gone)
	}
	return ops
}

// same tells whether two frames are the same; a nil list and an empty one are.
func same(a, b api.Frame) bool {
	for _, f := range []*api.Frame{&a, &b} {
		f.Have, f.Ops = nilled(f.Have), nilledOps(f.Ops)
		m := &f.Image
		m.Vector, m.Base, m.Nodes, m.Joined, m.Left, m.Log = nilled(m.Vector), nilled(m.Base), nilled(m.Nodes), nilled(m.Joined), nilled(m.Left), nilledOps(m.Log)
	}
	return reflect.DeepEqual(a, b)
}

// turn is something that is done to a frame.
type turn func(f *api.Frame)

func turned(f api.Frame, turns ...turn) api.Frame {
	f = clone(f)
	for _, do := range turns {
		do(&f)
	}
	return f
}

// wantAsked holds Check of a frame against what it must be.
func wantAsked(t *testing.T, f api.Frame) {
	t.Helper()
	if got, want := frame.Check(f), wantCheck(f); got != want {
		t.Errorf("Check(%+v): %d; want %d", f, int(got), int(want))
	}
}

// wantTurned holds Check of what became of a frame that is turned in each of these ways against a word of the chapter, written out.
func wantTurned(t *testing.T, f api.Frame, want api.Errno, turns ...turn) {
	t.Helper()
	for i, do := range turns {
		one := turned(f, do)
		wantAsked(t, one)
		if got := frame.Check(one); got != want {
			t.Errorf("Check of way %d, %+v: %d; want %d", i, one, int(got), int(want))
		}
	}
}

func asItIs(*api.Frame) {}

// TestSumExamples: P10.1: the chapter's examples, and other sums that are known.
func TestSumExamples(t *testing.T) {
	for s, want := range map[string]uint32{
		"": 0, "123456789": 0xcbf43926, "\x00": 0xd202ef8d, "a": 0xe8b7be43, "\xff": 0xff000000, "\xff\xff\xff\xff": 0xffffffff, "\x00\x00\x00\x00": 0x2144df1c,
		"The quick brown fox jumps over the lazy dog": 0x414fa339,
	} {
		if got := frame.Sum([]byte(s)); got != want {
			t.Errorf("Sum(% x): %x; want %x", s, got, want)
		}
	}
	if got := frame.Sum(nil); got != 0 {
		t.Errorf("Sum(nil): %x", got)
	}
}

// TestSum: P10.1: against the rule worked out digit by digit: each byte, each two bytes, each digit of long rows, many rows of any length; and long ones against the library.
func TestSum(t *testing.T) {
	hold := func(p []byte) {
		t.Helper()
		if got, want := frame.Sum(p), wantSum(p); got != want || crc32.ChecksumIEEE(p) != want {
			t.Fatalf("Sum(% x): %x; want %x", p, got, want)
		}
	}
	for a := range 256 {
		hold([]byte{byte(a)})
		for b := range 256 {
			hold([]byte{byte(a), byte(b)})
		}
		hold(bytes.Repeat([]byte{byte(a)}, a))
	}
	for at := range 8 * 40 {
		p := make([]byte, 40)
		p[at/8] = 1 << (at % 8)
		hold(p)
	}
	r := rand.New(rand.NewSource(101))
	for range 2000 {
		p := make([]byte, r.Intn(100))
		r.Read(p)
		hold(p)
	}
	for _, n := range []int{1 << 16, 1<<20 + 3} {
		p := make([]byte, n)
		r.Read(p)
		if got, want := frame.Sum(p), crc32.ChecksumIEEE(p); got != want {
			t.Errorf("Sum of %d bytes: %x; want %x", n, got, want)
		}
	}
}

// TestSumHandedIn: P10.7, W6: Sum does not look at the spare room behind the end, and changes nothing.
func TestSumHandedIn(t *testing.T) {
	p := []byte("12345678900000")
	for range 2 {
		if got := frame.Sum(p[:9]); got != 0xcbf43926 || string(p) != "12345678900000" {
			t.Errorf("%x, %s", got, p)
		}
	}
}

// TestExamples: the rows of the chapter's examples about Check.
func TestExamples(t *testing.T) {
	wantTurned(t, plain(api.FrameOps), api.OK, asItIs)
	wantTurned(t, plain(api.FrameOps), api.ErrArg, func(f *api.Frame) { f.To = 1 }, func(f *api.Frame) { f.Num = -1 }, func(f *api.Frame) { f.Credit = 257 })
	wantTurned(t, plain(api.FrameOps), api.ErrForm, func(f *api.Frame) { f.Image.Clock = 1 })
	wantTurned(t, plain(api.FrameImage), api.ErrForm, func(f *api.Frame) { f.Ops = []api.Op{leave()} })
}

// TestMayBe: P10.2: frames that may be: both kinds with little and with much, Answer or not.
func TestMayBe(t *testing.T) {
	for _, f := range frames() {
		wantTurned(t, f, api.OK, asItIs, func(f *api.Frame) { f.Answer = !f.Answer })
	}
}

// TestHeads: P10.2: each number of the head by itself about its limits, of frames of both kinds.
func TestHeads(t *testing.T) {
	most := func(n int) []int { return []int{0, 1, 2, n / 2, n - 1, n} }
	beyond := func(n int) []int {
		return []int{math.MinInt, math.MinInt32, -n, -2, -1, n + 1, n + 2, 1<<32 + 1, math.MaxInt - 1, math.MaxInt}
	}
	for _, f := range frames() {
		for _, x := range []struct {
			at          func(f *api.Frame) *int
			good, wrong []int
		}{
			{func(f *api.Frame) *int { return &f.Num }, most(api.MaxNum), beyond(api.MaxNum)},
			{func(f *api.Frame) *int { return &f.Got }, most(api.MaxNum), beyond(api.MaxNum)},
			{func(f *api.Frame) *int { return &f.Credit }, most(api.MaxHold), beyond(api.MaxHold)},
			{func(f *api.Frame) *int { return &f.From }, nil, append(beyond(api.MaxSites), 0)},
			{func(f *api.Frame) *int { return &f.To }, nil, append(beyond(api.MaxSites), 0)},
			{func(f *api.Frame) *int { return &f.Kind }, nil, append(beyond(2), 0)},
		} {
			for _, n := range x.good {
				wantTurned(t, f, api.OK, func(f *api.Frame) { *x.at(f) = n })
			}
			for _, n := range x.wrong {
				wantTurned(t, f, api.ErrArg, func(f *api.Frame) { *x.at(f) = n })
			}
		}
		for from := range api.MaxSites + 2 {
			for to := range api.MaxSites + 2 {
				want := api.OK
				if from == to || from == 0 || to == 0 || max(from, to) > api.MaxSites {
					want = api.ErrArg
				}
				wantTurned(t, f, want, func(f *api.Frame) { f.From, f.To = from, to })
			}
		}
		for _, n := range []int{math.MinInt, -1, 0, 17, math.MaxInt} {
			wantTurned(t, f, api.ErrArg, func(f *api.Frame) { f.From, f.To = n, n })
		}
	}
}

// refusedVectors is lists of Dots that are no vectors, and why.
func refusedVectors() map[api.Errno][]api.Vector {
	return map[api.Errno][]api.Vector{
		api.ErrArg:   {vec(0, 1), vec(17, 1), vec(-1, 1), vec(math.MinInt, 1), vec(math.MaxInt, 1), vec(1, 1, 17, 0), vec(1<<32+1, 1)},
		api.ErrForm:  {vec(1, 0), vec(1, -1), vec(1, api.MaxSeq+1), vec(1, math.MaxInt), vec(2, 1, 1, 0), vec(1, math.MinInt)},
		api.ErrOrder: {vec(2, 1, 1, 1), vec(1, 1, 1, 1), vec(1, 1, 1, 2), vec(1, 7, 2, 1, 2, 9)},
	}
}

// TestHave: P10.2: each error of a Have that is none, ahead of all that comes behind it and behind all that comes ahead.
func TestHave(t *testing.T) {
	most := api.Vector{}
	for n := 1; n <= api.MaxSites; n++ {
		most = append(most, dot(n, api.MaxSeq))
	}
	for _, v := range []api.Vector{nil, {}, vec(1, 1), vec(16, api.MaxSeq), vec(3, 2, 5, 1), most} {
		wantTurned(t, example(), api.OK, func(f *api.Frame) { f.Have = v })
	}
	for want, l := range refusedVectors() {
		for _, v := range l {
			for _, f := range frames() {
				wantTurned(t, f, want,
					func(f *api.Frame) { f.Have = v },
					func(f *api.Frame) { f.Have, f.Ops, f.Image = v, make([]api.Op, 257), api.Image{Clock: -1} },
					func(f *api.Frame) { f.Have, f.Ops = v, []api.Op{{}} },
					func(f *api.Frame) { f.Have, f.Image.Vector = v, v })
				wantTurned(t, f, api.ErrArg, func(f *api.Frame) { f.Have, f.Credit = v, -1 }, func(f *api.Frame) { f.Have, f.Kind = v, 3 }, func(f *api.Frame) { f.Have, f.From = v, f.To })
			}
		}
	}
}

// TestZeroImage: P10.2: of a FrameOps each field of its Image turned from zero by itself, whatever stands there, and each two; lists without an element are zero.
func TestZeroImage(t *testing.T) {
	empty := api.Image{Vector: api.Vector{}, Base: api.Vector{}, Log: []api.Op{}, Nodes: []api.Node{}, Joined: []int{}, Left: []int{}}
	room := api.Image{Vector: vec(1, 1)[:0], Base: vec(1, 1)[:0], Log: []api.Op{{}}[:0], Nodes: make([]api.Node, 0, 9), Joined: []int{1}[:0], Left: []int{1, 2}[:0]}
	fields := [][]turn{}
	for _, n := range []int{1, -1, 2, 128, api.MaxTime, math.MaxInt, math.MinInt, 1 << 32} {
		fields = append(fields, []turn{func(f *api.Frame) { f.Image.Clock = n }, func(f *api.Frame) { f.Image.Epoch = n }})
	}
	for _, n := range []int{1, 2, 256, 300} {
		fields = append(fields, []turn{
			func(f *api.Frame) { f.Image.Vector = make(api.Vector, n) }, func(f *api.Frame) { f.Image.Base = make(api.Vector, n) }, func(f *api.Frame) { f.Image.Log = make([]api.Op, n) },
			func(f *api.Frame) { f.Image.Nodes = make([]api.Node, n) }, func(f *api.Frame) { f.Image.Joined = make([]int, n) }, func(f *api.Frame) { f.Image.Left = make([]int, n) },
		})
	}
	for _, f := range []api.Frame{plain(api.FrameOps), example(), busy()} {
		wantTurned(t, f, api.OK, func(f *api.Frame) { f.Image = empty }, func(f *api.Frame) { f.Image = room })
		all := slices.Concat(fields...)
		for _, a := range all {
			wantTurned(t, f, api.ErrForm, a)
			for _, b := range all {
				wantTurned(t, f, api.ErrForm, func(f *api.Frame) { a(f); b(f) })
			}
		}
		// Images that may be, and such as may not.
		wantTurned(t, f, api.ErrForm,
			func(f *api.Frame) { f.Image = small() }, func(f *api.Frame) { f.Image = full().Image }, func(f *api.Frame) { f.Image, f.Have = small(), small().Vector },
			func(f *api.Frame) { f.Image.Vector, f.Image.Base = f.Have, f.Have; f.Image.Clock = 1 })
		// Ahead of the Ops.
		wantTurned(t, f, api.ErrForm,
			func(f *api.Frame) { f.Image.Epoch, f.Ops = 1, make([]api.Op, 257) }, func(f *api.Frame) { f.Image.Left, f.Ops = []int{1}, []api.Op{{}} }, func(f *api.Frame) { f.Image.Clock, f.Ops = 1, []api.Op{leave()} })
	}
}

// several is so many times the same operation.
func several(n int, o api.Op) []api.Op { return slices.Repeat([]api.Op{o}, n) }

// TestOps: P10.2: about MaxPush Ops, Ops that are none at every place, and that too many are told ahead of such; how they follow one another is not asked.
func TestOps(t *testing.T) {
	ops := func(l []api.Op) turn { return func(f *api.Frame) { f.Ops = l } }
	for _, f := range []api.Frame{plain(api.FrameOps), example(), busy()} {
		for _, o := range busy().Ops {
			for _, n := range []int{0, 1, 2, 255, api.MaxPush} {
				wantTurned(t, f, api.OK, ops(several(n, o)))
			}
			for _, n := range []int{api.MaxPush + 1, api.MaxPush + 2, 512, 513, 10000} {
				wantTurned(t, f, api.ErrLong, ops(several(n, o)))
			}
		}
		wantTurned(t, f, api.OK, ops(nil), ops([]api.Op{}), func(f *api.Frame) { slices.Reverse(f.Ops) })
		wantTurned(t, f, api.ErrLong, ops(make([]api.Op, api.MaxPush+1)), ops(append(several(api.MaxPush, leave()), api.Op{})), ops(append([]api.Op{{}}, several(api.MaxPush, leave())...)))
	}
	for _, wrong := range []api.Op{
		{}, {Kind: api.OpLeave}, {Kind: api.OpLeave, Dot: dot(1, 2)}, {Kind: api.OpLeave, Dot: dot(17, 1)}, {Kind: api.OpJoin, Dot: dot(1, 1)}, {Kind: 5, Dot: dot(1, 1)}, {Kind: math.MinInt, Dot: dot(1, 1)},
		{Kind: api.OpLeave, Dot: dot(1, 1), Site: 1}, {Kind: api.OpLeave, Dot: dot(1, 1), Deps: vec(0, 1)}, {Kind: api.OpInsert, Dot: dot(1, 1), ID: id(1, 1), Text: "\xff"}, {Kind: api.OpDelete, Dot: dot(1, 1)},
	} {
		for _, n := range []int{1, 2, 3, 255, api.MaxPush} {
			for _, at := range []int{0, n / 2, n - 1} {
				l := several(n, leave())
				l[at] = wrong
				wantTurned(t, example(), api.ErrOp, ops(l))
				wantTurned(t, brief(), api.ErrForm, ops(l))
			}
		}
	}
}

// TestImages: P10.2: of a FrameImage: Ops beside the Image, Images that are none by each error, a Have that is not the Image's Vector; in that order.
func TestImages(t *testing.T) {
	for _, f := range []api.Frame{plain(api.FrameImage), brief(), full()} {
		wantTurned(t, f, api.OK, func(f *api.Frame) { f.Ops = []api.Op{} }, func(f *api.Frame) { f.Ops = []api.Op{{}}[:0] })
		wantTurned(t, f, api.ErrForm,
			func(f *api.Frame) { f.Ops = []api.Op{leave()} }, func(f *api.Frame) { f.Ops = []api.Op{{}} }, func(f *api.Frame) { f.Ops = make([]api.Op, 257) }, func(f *api.Frame) { f.Ops = f.Image.Log; f.Ops = append(f.Ops, leave()) },
			func(f *api.Frame) { f.Ops, f.Image.Joined = []api.Op{leave()}, []int{17} }, func(f *api.Frame) { f.Ops, f.Image.Nodes = []api.Op{leave()}, []api.Node{{}} })
		wantTurned(t, f, api.ErrForm,
			func(f *api.Frame) { f.Have = append(f.Have, dot(16, 9)); f.Have = f.Have[len(f.Have)-1:] }, func(f *api.Frame) { f.Have = vec(7, 1) },
			func(f *api.Frame) { f.Have = vec(1, 1) }, func(f *api.Frame) { f.Have = vec(1, 3) }, func(f *api.Frame) { f.Have = vec(1, 2, 2, 1) })
	}
	for _, f := range []api.Frame{brief(), full()} {
		wantTurned(t, f, api.ErrForm,
			func(f *api.Frame) { f.Have = nil }, func(f *api.Frame) { f.Have = f.Have[1:] }, func(f *api.Frame) { f.Have = f.Have[:len(f.Have)-1] }, func(f *api.Frame) { f.Have[0].Seq++ }, func(f *api.Frame) { f.Have[0].Seq-- },
			func(f *api.Frame) { f.Have[len(f.Have)-1].Seq++ }, func(f *api.Frame) { f.Have[0].Site = 2; f.Have = f.Have[:1] }, func(f *api.Frame) { f.Have[len(f.Have)-1].Site = 15 })
		// The Base instead, and an Image that has none while it is told.
		wantTurned(t, f, api.ErrForm, func(f *api.Frame) { f.Have = f.Image.Base }, func(f *api.Frame) { f.Image = api.Image{} })
		for _, x := range imageFaults() {
			wantTurned(t, f, x.want, x.do, func(f *api.Frame) { x.do(f); f.Have = nil }, func(f *api.Frame) { x.do(f); f.Have = vec(9, 9) })
			wantTurned(t, f, api.ErrForm, func(f *api.Frame) { x.do(f); f.Ops = several(1, leave()) })
		}
	}
}

// fault is something that Check has against a frame: which one it comes to first, and what it says.
type fault struct {
	rank, field int
	do          turn
	want        api.Errno
}

const inKind, inFrom, inTo, inNum, inGot, inCredit, inHave, inImage, inOps = 0, 1, 2, 3, 4, 5, 6, 7, 8

// imageFaults turns an image so that chapter 9's Check has each of its errors.
func imageFaults() []fault {
	var l []fault
	add := func(want api.Errno, do turn) { l = append(l, fault{8, inImage, do, want}) }
	add(api.ErrArg, func(f *api.Frame) { f.Image.Joined = []int{0} })
	add(api.ErrArg, func(f *api.Frame) { f.Image.Base = vec(17, 1) })
	add(api.ErrForm, func(f *api.Frame) { f.Image.Clock = -1 })
	add(api.ErrForm, func(f *api.Frame) { f.Image.Epoch += 2 })
	add(api.ErrOrder, func(f *api.Frame) { f.Image.Log = nil })
	add(api.ErrOrder, func(f *api.Frame) { f.Image.Vector = vec(1, 9) })
	add(api.ErrOrder, func(f *api.Frame) { f.Image.Clock = 0 })
	add(api.ErrOp, func(f *api.Frame) { f.Image.Log = []api.Op{{}} })
	add(api.ErrExists, func(f *api.Frame) { f.Image.Nodes = append(f.Image.Nodes, f.Image.Nodes[0]) })
	add(api.ErrNone, func(f *api.Frame) { f.Image.Nodes = append(f.Image.Nodes, node(id(2, 2), id(1, 9), 'a', 1)) })
	return l
}

// faults turns each part of a frame with operations, or of one with an image.
func faults(kind int) []fault {
	var l []fault
	add := func(rank, field int, want api.Errno, do turn) { l = append(l, fault{rank, field, do, want}) }
	add(1, inKind, api.ErrArg, func(f *api.Frame) { f.Kind = 3 })
	add(2, inFrom, api.ErrArg, func(f *api.Frame) { f.From = 17 })
	add(2, inTo, api.ErrArg, func(f *api.Frame) { f.To = 0 })
	add(2, inTo, api.ErrArg, func(f *api.Frame) { f.To = f.From })
	add(3, inNum, api.ErrArg, func(f *api.Frame) { f.Num = -1 })
	add(3, inGot, api.ErrArg, func(f *api.Frame) { f.Got = api.MaxNum + 1 })
	add(4, inCredit, api.ErrArg, func(f *api.Frame) { f.Credit = 257 })
	for want, v := range refusedVectors() {
		add(5, inHave, want, func(f *api.Frame) { f.Have = v[0] })
	}
	if kind == api.FrameOps {
		add(6, inImage, api.ErrForm, func(f *api.Frame) { f.Image.Clock = 1 })
		add(7, inOps, api.ErrLong, func(f *api.Frame) { f.Ops = make([]api.Op, 257) })
		add(8, inOps, api.ErrOp, func(f *api.Frame) { f.Ops = []api.Op{leave(), {}} })
		return l
	}
	add(6, inOps, api.ErrForm, func(f *api.Frame) { f.Ops = several(1, leave()) })
	add(9, inHave, api.ErrForm, func(f *api.Frame) { f.Have = vec(9, 9) })
	return append(l, imageFaults()...)
}

// TestFirstError: P10.2, W4: of two things that offend at once, the one that is named first.
func TestFirstError(t *testing.T) {
	for _, f := range []api.Frame{busy(), brief(), full()} {
		all := faults(f.Kind)
		for _, a := range all {
			wantTurned(t, f, a.want, a.do)
			for _, b := range all {
				if a.rank < b.rank && a.field != b.field {
					wantTurned(t, f, a.want, func(f *api.Frame) { a.do(f); b.do(f) })
				}
			}
		}
	}
}

// edges is numbers about each limit there is.
var edges = []int{
	math.MinInt, -api.MaxNum - 1, -1, 0, 1, 2, 3, 5, api.MaxSites, api.MaxSites + 1, api.MaxHold, api.MaxHold + 1, 0xd800, 0x10ffff, 0x110000,
	api.MaxNum - 1, api.MaxNum, api.MaxNum + 1, 1 << 32, 1<<32 + 1, math.MaxInt,
}

// few is the same for what is turned two at a time.
var few = []int{-1, 0, 2, 17, 257, math.MaxInt}

// numbersOf is how each number of a frame is turned.
func numbersOf(f *api.Frame) []func(n int) {
	var l []func(n int)
	add := func(places ...*int) {
		for _, at := range places {
			l = append(l, func(n int) { *at = n })
		}
	}
	dots := func(v api.Vector) {
		for i := range v {
			add(&v[i].Site, &v[i].Seq)
		}
	}
	ops := func(ops []api.Op) {
		for i := range ops {
			o := &ops[i]
			add(&o.Kind, &o.Dot.Site, &o.Dot.Seq, &o.ID.Time, &o.ID.Site, &o.Ref.Time, &o.Ref.Site, &o.Site)
			dots(o.Deps)
			for k := range o.Gone {
				add(&o.Gone[k].ID.Time, &o.Gone[k].ID.Site, &o.Gone[k].Count)
			}
		}
	}
	add(&f.Kind, &f.From, &f.To, &f.Num, &f.Got, &f.Credit, &f.Image.Clock, &f.Image.Epoch)
	dots(f.Have)
	ops(f.Ops)
	dots(f.Image.Vector)
	dots(f.Image.Base)
	ops(f.Image.Log)
	for i := range f.Image.Nodes {
		n := &f.Image.Nodes[i]
		add(&n.ID.Time, &n.ID.Site, &n.Ref.Time, &n.Ref.Site, &n.State)
		l = append(l, func(to int) { n.Rune = rune(to) })
	}
	for _, sites := range [][]int{f.Image.Joined, f.Image.Left} {
		for i := range sites {
			add(&sites[i])
		}
	}
	return l
}

// TestNumbers: P10.2, W1: each number turned by itself about each limit, and each together with each one of the head and of Have.
func TestNumbers(t *testing.T) {
	for _, f := range frames() {
		for i := range numbersOf(&f) {
			for _, n := range edges {
				one := clone(f)
				numbersOf(&one)[i](n)
				wantAsked(t, one)
			}
			for k := range min(i, 16) {
				for _, a := range few {
					for _, b := range few {
						two := clone(f)
						l := numbersOf(&two)
						l[i](a)
						l[k](b)
						wantAsked(t, two)
					}
				}
				if t.Failed() {
					return
				}
			}
		}
	}
}

// right is a frame that Check takes, of any numbers.
func right(r *rand.Rand) api.Frame {
	wide := func(n int) int { return r.Intn(1 + r.Intn(n+1)) }
	f := api.Frame{Kind: 1 + r.Intn(2), From: 1 + r.Intn(16), Num: wide(api.MaxNum), Got: wide(api.MaxNum), Credit: wide(api.MaxHold), Answer: r.Intn(2) == 0}
	f.To = 1 + (f.From+r.Intn(15))%16
	if f.Kind == api.FrameImage {
		f.Image = someImage(r)
		f.Have = slices.Clone(f.Image.Vector)
		return f
	}
	f.Have = someVector(r)
	for range r.Intn(9) {
		f.Ops = append(f.Ops, someOp(r, someVector(r)))
	}
	return f
}

func someVector(r *rand.Rand) api.Vector {
	var v api.Vector
	for n := 1; n <= api.MaxSites; n++ {
		if r.Intn(4) == 0 {
			v = append(v, dot(n, 1+r.Intn(1+r.Intn(api.MaxSeq-99))))
		}
	}
	return v
}

// someOp is an operation of any kind, no later than 200, by somebody who has that.
func someOp(r *rand.Rand, deps api.Vector) api.Op {
	d := dot(1+r.Intn(api.MaxSites), 1)
	for _, x := range deps {
		if x.Site == d.Site {
			d.Seq = x.Seq + 1
		}
	}
	o := api.Op{Kind: 1 + r.Intn(4), Dot: d, Deps: slices.Clone(deps)}
	switch o.Kind {
	case api.OpInsert:
		o.ID, o.Text = id(2+r.Intn(190), d.Site), []string{"a", "é€", "𝄞\x00z", "\uFFFD"}[r.Intn(4)]
		if r.Intn(2) == 0 {
			o.Ref = id(1+r.Intn(o.ID.Time-1), 1+r.Intn(api.MaxSites))
		}
	case api.OpDelete:
		for i := range 1 + r.Intn(3) {
			o.Gone = append(o.Gone, run(10*i+1+r.Intn(5), 1+r.Intn(api.MaxSites), 1+r.Intn(4)))
		}
	case api.OpJoin:
		o.Site = 1 + r.Intn(api.MaxSites)
	}
	return o
}

// someImage is an image that chapter 9's Check takes.
func someImage(r *rand.Rand) api.Image {
	m := api.Image{Base: someVector(r), Clock: 200}
	m.Vector = slices.Clone(m.Base)
	for range r.Intn(6) {
		o := someOp(r, m.Vector)
		m.Log = append(m.Log, o)
		m.Vector = slices.DeleteFunc(m.Vector, func(d api.Dot) bool { return d.Site == o.Dot.Site })
		m.Vector = append(m.Vector, o.Dot)
		slices.SortFunc(m.Vector, func(a, b api.Dot) int { return a.Site - b.Site })
	}
	for i := range r.Intn(9) {
		m.Nodes = append(m.Nodes, node(id(190-i, 1+r.Intn(api.MaxSites)), beginning, []rune{'a', 'é', 0, 0x10ffff}[r.Intn(4)], 1+r.Intn(3)))
	}
	for n := 1; n <= api.MaxSites; n++ {
		switch r.Intn(4) {
		case 0:
			m.Joined = append(m.Joined, n)
			m.Epoch++
		case 1:
			m.Left = append(m.Left, n)
		}
	}
	return m
}

// TestMany: P10.2: many frames that may be, and the same with some numbers turned.
func TestMany(t *testing.T) {
	r := rand.New(rand.NewSource(102))
	for range 5000 {
		f := right(r)
		wantTurned(t, f, api.OK, asItIs)
		for range 3 {
			one := clone(f)
			l := numbersOf(&one)
			for range 1 + r.Intn(2) {
				l[r.Intn(len(l))](edges[r.Intn(len(edges))])
			}
			wantAsked(t, one)
		}
		if t.Failed() {
			return
		}
	}
}

// TestLong: P10.2, W1: lists as long as one likes.
func TestLong(t *testing.T) {
	const n = 1 << 20
	wantTurned(t, example(), api.ErrLong, func(f *api.Frame) { f.Ops = make([]api.Op, n) })
	wantTurned(t, example(), api.ErrOrder, func(f *api.Frame) { f.Have = slices.Repeat(vec(1, 1), n) })
	wantTurned(t, example(), api.ErrForm, func(f *api.Frame) { f.Image.Nodes = make([]api.Node, n) })
	wantTurned(t, brief(), api.ErrForm, func(f *api.Frame) { f.Ops = make([]api.Op, n) })
	wantTurned(t, brief(), api.ErrArg, func(f *api.Frame) { f.Image.Joined = make([]int, n) })
}
