package image_test

import (
	"bytes"
	"math"
	"math/rand"
	"slices"
	"strings"
	"testing"

	"hearsay/api"
	"hearsay/image"
	"hearsay/stamp"
)

// exampleBytes is what the chapter's examples say of the first image without Log, its Base being its Vector.
const exampleBytes = "\x01\x01\x02\x01\x01\x02\x02\x00\x02\x01\x01\x00\x00\x68\x01\x02\x01\x01\x01\xe9\x01\x01\x01\x01\x00\x01"

// zeroBytes is the zero image.
const zeroBytes = "\x00\x00\x00\x00\x00\x00\x00\x00"

func example() api.Image {
	return turned(first(), func(m *api.Image) { m.Base, m.Log = vec(1, 2), nil })
}

// edgy is images that Check takes, at their limits.
func edgy() []api.Image {
	var all []int
	var most api.Vector
	for n := 1; n <= api.MaxSites; n++ {
		all = append(all, n)
		most = append(most, dot(n, api.MaxSeq))
	}
	return []api.Image{
		{}, first(), rich(), example(),
		{Clock: api.MaxTime}, {Clock: 128}, {Vector: most, Base: slices.Clone(most)}, {Joined: all, Epoch: 16}, {Left: all}, {Joined: all, Left: slices.Clone(all), Epoch: 32}, {Joined: all, Left: slices.Clone(all)},
		{Vector: vec(16, api.MaxSeq), Base: vec(16, api.MaxSeq-1), Log: []api.Op{{Kind: api.OpLeave, Dot: dot(16, api.MaxSeq), Deps: vec(16, api.MaxSeq-1)}}},
		{Vector: vec(1, 2, 2, 1, 3, 1), Clock: 9, Log: []api.Op{join(), hello(), {Kind: api.OpLeave, Dot: dot(2, 1)}, {Kind: api.OpDelete, Dot: dot(3, 1), Gone: []api.Run{run(9, 9, 1)}}}, Left: []int{1, 2, 3}},
		{Vector: vec(2, 1), Clock: api.MaxText, Log: []api.Op{{Kind: api.OpInsert, Dot: dot(2, 1), ID: id(1, 2), Text: strings.Repeat("𝄞", api.MaxText)}}},
		{Vector: vec(2, 1), Clock: api.MaxTime, Log: []api.Op{{Kind: api.OpDelete, Dot: dot(2, 1), Gone: []api.Run{run(1, 1, api.MaxTime), run(1, 16, api.MaxTime)}}}},
		{Clock: api.MaxTime, Nodes: []api.Node{node(id(api.MaxTime, 16), beginning, 0x10ffff, 3), node(id(api.MaxTime-1, 16), beginning, 0, 1), node(id(api.MaxTime, 1), id(api.MaxTime-1, 16), 0xe000, 2)}},
	}
}

// wantLaid holds Put of an image against what it must be.
func wantLaid(t *testing.T, m api.Image) {
	t.Helper()
	var want []byte
	if wantCheck(m) == api.OK {
		want = wantBytes(m)
	}
	w := &stamp.Writer{}
	image.Put(w, m)
	if !bytes.Equal(w.Data(), want) || w.Err() != api.OK {
		t.Errorf("Put of %+v: % x, %d; want % x", m, w.Data(), int(w.Err()), want)
	}
}

// wantBack takes what was laid.
func wantBack(t *testing.T, m api.Image) {
	t.Helper()
	w := &stamp.Writer{}
	image.Put(w, m)
	r := stamp.Read(w.Data())
	if got, err := image.Take(r); err != api.OK || r.End() != api.OK || !same(got, m) {
		t.Errorf("Take of what Put laid of %+v: %+v, %d, %d left", m, got, int(err), r.Left())
	}
}

// wantTaken holds Take of some bytes against what it must be, with what is left then; what was taken is what Put lays of it.
func wantTaken(t *testing.T, b []byte) {
	t.Helper()
	r := stamp.Read(b)
	got, err := image.Take(r)
	want, left, wantE, stopped := wantTake(b)
	if !same(got, want) || err != wantE || r.Left() != left || (r.Err() != api.OK) != stopped {
		t.Errorf("Take of % x: %+v, %d, %d, %d left; want %+v, %d, %v, %d left", b, got, int(err), int(r.Err()), r.Left(), want, int(wantE), stopped, left)
	}
	if stopped && r.Err() != err {
		t.Errorf("Take of % x: %d, the Reader's is %d", b, int(err), int(r.Err()))
	}
	if err != api.OK {
		return
	}
	w := &stamp.Writer{}
	if image.Put(w, got); !bytes.Equal(w.Data(), b[:len(b)-left]) {
		t.Errorf("Take of % x: laid again % x", b, w.Data())
	}
}

// wantGiven holds Take of some bytes against an error and how many bytes are left, written out; the Reader has no error of its own.
func wantGiven(t *testing.T, b []byte, want api.Errno, left int) {
	t.Helper()
	wantTaken(t, b)
	r := stamp.Read(b)
	got, err := image.Take(r)
	if err != want || r.Left() != left || r.Err() != api.OK || want != api.OK && !same(got, api.Image{}) {
		t.Errorf("Take of % x: %+v, %d, %d, %d left; want %d, %d left", b, got, int(err), int(r.Err()), r.Left(), int(want), left)
	}
}

// TestExamplesOfBytes: the rows of the chapter's examples about bytes.
func TestExamplesOfBytes(t *testing.T) {
	w := &stamp.Writer{}
	if image.Put(w, example()); string(w.Data()) != exampleBytes {
		t.Errorf("Put: % x", w.Data())
	}
	if m, err := image.Take(stamp.Read([]byte(exampleBytes))); err != api.OK || !same(m, example()) {
		t.Errorf("Take: %+v, %d", m, int(err))
	}
	if m, err := image.Take(stamp.Read([]byte(exampleBytes[:25]))); err != api.ErrShort || !same(m, api.Image{}) {
		t.Errorf("Take without the last byte: %+v, %d", m, int(err))
	}
	wantGiven(t, []byte(exampleBytes[:21]+"\x05"+exampleBytes[22:]), api.ErrForm, 0)
}

// TestPutBytes: P9.2: byte for byte, written out: with operations of each kind, nodes of each state, joined and left ones.
func TestPutBytes(t *testing.T) {
	for _, x := range []struct {
		m    api.Image
		want string
	}{
		{api.Image{}, zeroBytes},
		{example(), exampleBytes},
		{first(), "\x01\x01\x02" + "\x00" + "\x02" + "\x02" + "\x03\x01\x01\x00\x01" + "\x01\x01\x02\x01\x01\x01\x01\x00\x00\x03h\xc3\xa9" +
			"\x02" + "\x01\x01\x00\x00\x68\x01" + "\x02\x01\x01\x01\xe9\x01\x01" + "\x01\x01" + "\x00" + "\x01"},
		{rich(), "\x04\x01\x05\x02\x03\x03\x01\x10\x08" + "\x03\x01\x04\x02\x01\x10\x07" + "\x0c" + "\x05" +
			"\x01\x02\x02\x02\x01\x04\x02\x01\x09\x03\x01\x06é𝄞" +
			"\x03\x01\x05\x01\x01\x04\x03" +
			"\x02\x03\x01\x02\x01\x05\x02\x02\x02\x02\x01\x01\x09\x02\x02" +
			"\x04\x10\x08\x02\x02\x02\x10\x07" +
			"\x01\x02\x03\x01\x02\x02\x0b\x00\x00\x01x" +
			"\x08" + "\x0b\x02\x00\x00\x78\x01" + "\x01\x01\x00\x00\x61\x03" + "\x03\x01\x01\x01\x62\x01" + "\x09\x02\x03\x01\xe9\x01\x02" +
			"\x0a\x02\x09\x02\x9e\xa2\x07\x02" + "\x02\x10\x01\x01\x00\x01" + "\x02\x01\x01\x01\xfd\xff\x03\x02" + "\x05\x03\x02\x01\x0a\x01" +
			"\x04\x01\x02\x03\x10" + "\x02\x04\x10" + "\x05"},
		{api.Image{Clock: api.MaxTime, Nodes: []api.Node{node(id(api.MaxTime, 16), beginning, 0x10ffff, 3)}, Left: []int{1, 16}},
			"\x00\x00\xff\xff\xff\xff\x07\x00\x01\xff\xff\xff\xff\x07\x10\x00\x00\xff\xff\x43\x03\x00\x02\x01\x10\x00"},
	} {
		wantLaid(t, x.m)
		w := &stamp.Writer{}
		if image.Put(w, x.m); string(w.Data()) != x.want || w.Err() != api.OK {
			t.Errorf("Put of %+v: % x, %d; want % x", x.m, w.Data(), int(w.Err()), x.want)
		}
	}
}

// TestPutBehind: P9.2, P9.4: Put lays behind what was laid, others lay behind it, and what Check does not take lays nothing between; each takes its own again.
func TestPutBehind(t *testing.T) {
	w := &stamp.Writer{}
	w.Text("ab")
	image.Put(w, example())
	image.Put(w, api.Image{Clock: -1})
	image.Put(w, api.Image{})
	image.Put(w, turned(rich(), func(m *api.Image) { m.Epoch++ }))
	image.Put(w, rich())
	w.Number(7)
	if got := string(w.Data()); got != "\x02ab"+exampleBytes+zeroBytes+string(wantBytes(rich()))+"\x07" || w.Err() != api.OK {
		t.Errorf("% x, %d", got, int(w.Err()))
	}
	r := stamp.Read(w.Data())
	r.Text()
	for _, want := range []api.Image{example(), {}, rich()} {
		if got, err := image.Take(r); err != api.OK || !same(got, want) {
			t.Errorf("%+v, %d; want %+v", got, int(err), want)
		}
	}
	if r.Number() != 7 || r.End() != api.OK {
		t.Errorf("%d left", r.Left())
	}
}

// TestPutRefused: P9.2, W8: of an image that Check does not take nothing is laid, and no Writer has an error of it; nil Writers and such as have an error take nothing.
func TestPutRefused(t *testing.T) {
	var wrong []api.Image
	for _, f := range faults() {
		wrong = append(wrong, turned(first(), f.do))
	}
	for _, m := range wrong {
		w := &stamp.Writer{}
		w.Number(3)
		if image.Put(w, m); string(w.Data()) != "\x03" || w.Err() != api.OK {
			t.Errorf("Put of %+v: % x, %d", m, w.Data(), int(w.Err()))
		}
	}
	for _, m := range append(wrong, edgy()...) {
		wantLaid(t, m)
		image.Put(nil, m)
		w := &stamp.Writer{}
		w.Number(5)
		w.Number(-1)
		image.Put(w, m)
		if string(w.Data()) != "\x05" || w.Err() != api.ErrArg {
			t.Errorf("%+v: % x, %d", m, w.Data(), int(w.Err()))
		}
	}
}

// TestThereAndBack: P9.2 to P9.4: at all limits, and of many images; with some number turned, of what Check refuses.
func TestThereAndBack(t *testing.T) {
	for _, m := range edgy() {
		wantChecked(t, m, api.OK)
		wantLaid(t, m)
		wantBack(t, m)
	}
	r := rand.New(rand.NewSource(94))
	for range 5000 {
		m := right(r)
		wantLaid(t, m)
		wantBack(t, m)
		l := numbersOf(&m)
		l[r.Intn(len(l))](edges[r.Intn(len(edges))])
		wantLaid(t, m)
	}
}

// TestPrefixes: P9.3, P9.4: of what is right no prefix is taken, and what stands behind it is left. (Most are too short; where a number of operations or of nodes is above what is left, that offends first.)
func TestPrefixes(t *testing.T) {
	for _, m := range edgy() {
		b := wantBytes(m)
		for n := 0; n < len(b); n += 1 + len(b)/300 {
			wantTaken(t, b[:n])
			if _, err := image.Take(stamp.Read(b[:n])); err != api.ErrShort && err != api.ErrForm {
				t.Errorf("Take of % x: %d", b[:n], int(err))
			}
		}
		for _, behind := range []string{"\x00", "\x80", "\xff\xff", string(b)} {
			wantGiven(t, append(slices.Clone(b), behind...), api.OK, len(behind))
		}
	}
	// The example's, written out: two nodes are told at the ninth byte.
	for n := range len(exampleBytes) {
		want := api.ErrShort
		if n == 9 || n == 10 {
			want = api.ErrForm
		}
		if _, err := image.Take(stamp.Read([]byte(exampleBytes[:n]))); err != want {
			t.Errorf("%d bytes: %d; want %d", n, int(err), int(want))
		}
	}
}

// TestTakeNumbers: P9.3: each number of what is right turned by itself, and cut off behind it, and with a second one behind it turned too.
func TestTakeNumbers(t *testing.T) {
	wrong := []int{0, 1, 2, 3, 4, 5, 15, 16, 17, 127, 0xd800, 0x10ffff, 0x110000, api.MaxTime, api.MaxTime + 1, 1<<32 + 1, math.MaxInt}
	for _, m := range []api.Image{first(), rich(), example(), {}} {
		p := wantPieces(m)
		for i := range p {
			for _, n := range wrong {
				one := slices.Clone(p)
				one[i] = row(n)
				wantTaken(t, slices.Concat(one...))
				wantTaken(t, slices.Concat(one[:i+1]...))
				for k := i + 1; k < len(p); k += 1 + len(p)/40 {
					for _, n := range []int{0, 1, 17, 0x110000, math.MaxInt} {
						two := slices.Clone(one)
						two[k] = row(n)
						wantTaken(t, slices.Concat(two...))
					}
				}
			}
		}
	}
}

// TestTakeOrder: P9.3: which error comes first, and what is left then: what is behind the thing that offends, at once within vectors and operations, behind numbers of operations, nodes and sites, and behind a Rune; at the end for all else. The Reader goes on behind.
func TestTakeOrder(t *testing.T) {
	const end = -1 // all numbers are taken
	for _, x := range []struct {
		numbers []int
		taken   int
		want    api.Errno
	}{
		// Vectors, as they are taken: the Vector ahead of the Base, both ahead of the Clock.
		{[]int{17, 0, 0}, 1, api.ErrForm}, {[]int{1, 0, 1, 17}, 2, api.ErrForm}, {[]int{1, 17, 1, 0}, 2, api.ErrForm}, {[]int{1, 1, 0, 17}, 3, api.ErrForm}, {[]int{2, 1, 1, 1, 1, 0}, 4, api.ErrForm},
		{[]int{0, 17, 0}, 2, api.ErrForm}, {[]int{0, 1, 1, 0, 9}, 4, api.ErrForm}, {[]int{1, 1, 1, 2, 3, 1, 2, 1, 9}, 7, api.ErrForm},
		// Operations, as they are taken.
		{[]int{0, 0, 0, 1, 5, 1, 1, 0}, 5, api.ErrOp}, {[]int{0, 0, 0, 1, 0, 1, 1, 0}, 5, api.ErrOp}, {[]int{0, 0, 0, 1, 4, 1, 1, 17, 0}, 8, api.ErrForm}, {[]int{0, 0, 0, 1, 3, 1, 1, 0, 17, 0, 0}, 9, api.ErrOp},
		{[]int{0, 0, 0, 2, 4, 1, 1, 0, 4, 1, 2, 0, 1, 1}, 12, api.ErrOp}, {[]int{0, 0, math.MaxInt, 1, 9, 0, 0, 0, 0}, 5, api.ErrOp},
		// How many operations, and nodes: the bytes that are left are counted behind the number.
		{[]int{0, 0, 0, 3}, 4, api.ErrForm}, {[]int{0, 0, 0, 9, 0, 0, 0, 0}, 4, api.ErrForm}, {[]int{0, 0, 0, 7, 4, 1, 1, 0}, 4, api.ErrForm}, {[]int{0, 0, 0, math.MaxInt}, 4, api.ErrForm}, {[]int{0, 0, math.MaxInt, 99}, 4, api.ErrForm},
		{[]int{0, 0, 0, 0, 3}, 5, api.ErrForm}, {[]int{0, 0, 0, 0, 10, 1, 1, 0, 0, 97}, 5, api.ErrForm}, {[]int{0, 0, 0, 0, math.MaxInt, 1}, 5, api.ErrForm}, {[]int{0, 0, 0, 1, 4, 1, 1, 0, 99, 1}, 9, api.ErrForm},
		// Runes, ahead of the State.
		{[]int{0, 0, 9, 0, 1, 1, 1, 0, 0, 0x110000, 1, 0, 0, 0}, 10, api.ErrForm}, {[]int{0, 0, 9, 0, 1, 0, 99, 0, 0, math.MaxInt, 9, 0, 0, 0}, 10, api.ErrForm}, {[]int{0, 0, 9, 0, 1, 1, 1, 0, 0, 1<<32 + 97, 1, 0, 0, 0}, 10, api.ErrForm},
		{[]int{0, 0, 9, 0, 2, 1, 17, 0, 0, 97, 4, 2, 1, 0, 0, 0x110000, 1, 0, 0, 0}, 16, api.ErrForm},
		// How many have joined, and left.
		{[]int{0, 0, 0, 0, 0, 17, 1, 2}, 6, api.ErrForm}, {[]int{0, 0, 0, 0, 0, math.MaxInt}, 6, api.ErrForm}, {[]int{0, 0, 0, 0, 0, 1, 17, 17, 1, 2}, 8, api.ErrForm}, {[]int{0, 0, 0, 0, 0, 0, 17}, 7, api.ErrForm}, {[]int{0, 0, 0, 0, 0, 0, math.MaxInt, 0}, 7, api.ErrForm},
		// All else at the end, in the order of Check.
		{[]int{1, 1, 1, 0, 0, 0, 0, 0, 0, 0}, end, api.ErrOrder}, {[]int{0, 1, 1, 1, math.MaxInt, 0, 0, 0, 0, 0}, end, api.ErrOrder}, {[]int{0, 0, math.MaxInt, 0, 0, 0, 0, 0}, end, api.ErrForm}, {[]int{0, 0, api.MaxTime + 1, 0, 0, 1, 0, 0, 0}, end, api.ErrForm},
		{[]int{0, 0, 0, 1, 4, 1, 1, 0, 0, 0, 0, 0}, end, api.ErrOrder}, {[]int{1, 2, 1, 0, 0, 1, 4, 1, 1, 0, 0, 0, 0, 0}, end, api.ErrOrder}, {[]int{1, 1, 1, 0, 0, 1, 1, 1, 1, 0, 1, 0, 0, 1, 97, 0, 0, 0, 0}, end, api.ErrOrder},
		{[]int{0, 0, 9, 0, 1, 0, 1, 0, 0, 97, 0, 1, 0, 0, 0}, end, api.ErrArg}, {[]int{0, 0, 9, 0, 1, 1, 17, 0, 0, 97, 0, 0, 0, 0}, end, api.ErrArg}, {[]int{0, 0, 9, 0, 1, math.MaxInt, 1, 0, 0, 97, 1, 0, 0, 0}, end, api.ErrArg},
		{[]int{0, 0, 9, 0, 1, 2, 1, 1, 0, 97, 1, 0, 0, 0}, end, api.ErrArg}, {[]int{0, 0, 9, 0, 1, 1, 1, 0, 0, 0xd800, 1, 0, 0, 0}, end, api.ErrForm}, {[]int{0, 0, 9, 0, 1, 1, 1, 0, 0, 0xdfff, 1, 0, 0, 0}, end, api.ErrForm},
		{[]int{0, 0, 9, 0, 1, 1, 1, 0, 0, 97, 4, 0, 0, 0}, end, api.ErrForm}, {[]int{0, 0, 9, 0, 1, 1, 1, 0, 0, 97, math.MaxInt, 0, 0, 0}, end, api.ErrForm}, {[]int{0, 0, 9, 0, 1, 2, 1, 2, 1, 97, 1, 0, 0, 0}, end, api.ErrOrder},
		{[]int{0, 0, 9, 0, 2, 1, 1, 0, 0, 97, 1, 1, 1, 0, 0, 97, 1, 0, 0, 0}, end, api.ErrExists}, {[]int{0, 0, 9, 0, 1, 2, 1, 1, 1, 97, 1, 0, 0, 0}, end, api.ErrNone}, {[]int{0, 0, 9, 0, 2, 1, 1, 0, 0, 97, 1, 2, 1, 0, 0, 97, 1, 0, 0, 0}, end, api.ErrOrder},
		{[]int{0, 0, 1, 0, 1, 2, 1, 0, 0, 97, 1, 1, 17, 0, 0}, end, api.ErrOrder}, {[]int{0, 0, 0, 0, 0, 1, 0, 0, 1}, end, api.ErrArg}, {[]int{0, 0, 0, 0, 0, 2, 2, 1, 0, 2}, end, api.ErrArg}, {[]int{0, 0, 0, 0, 0, 0, 1, math.MaxInt, 0}, end, api.ErrArg},
		{[]int{0, 0, 0, 0, 0, 1, 1, 0, 0}, end, api.ErrForm}, {[]int{0, 0, 0, 0, 0, 0, 0, 1}, end, api.ErrForm}, {[]int{0, 0, 0, 0, 0, 0, 0, math.MaxInt}, end, api.ErrForm},
	} {
		taken := x.taken
		if taken == end {
			taken = len(x.numbers)
		}
		behind := append(slices.Clone(x.numbers[taken:]), 77, 78)
		b := row(append(slices.Clone(x.numbers), 77, 78)...)
		wantGiven(t, b, x.want, len(row(behind...)))
		r := stamp.Read(b)
		image.Take(r)
		if n := r.Number(); n != behind[0] {
			t.Errorf("%v: behind what offends it goes on with %d; want %d", x.numbers, n, behind[0])
		}
		if x.taken != end {
			continue
		}
		// What would offend at the end is not looked at, where something is cut off.
		if _, err := image.Take(stamp.Read(row(x.numbers[:len(x.numbers)-1]...))); err != api.ErrShort {
			t.Errorf("%v, cut off: %d", x.numbers, int(err))
		}
	}
}

// TestTakeCounts: P9.3: numbers of operations and of nodes just up to how many bytes are left, and one more, of any width.
func TestTakeCounts(t *testing.T) {
	for _, left := range []int{0, 1, 2, 3, 126, 127, 128, 129, 300, 16383, 16384} {
		rest := bytes.Repeat([]byte{9}, left)
		for _, head := range [][]byte{row(0, 0, 0), row(0, 0, 0, 0)} {
			for _, more := range []int{1, 2, 1000, math.MaxInt - left} {
				wantGiven(t, slices.Concat(head, row(left+more), rest), api.ErrForm, left)
			}
			b := slices.Concat(head, row(left), rest)
			wantTaken(t, b)
			want := api.ErrShort
			if len(head) == 3 && left > 0 {
				want = api.ErrOp // there is no kind 9
			}
			// Sixteen thousand nodes of nines are too short by many: six numbers each.
			if _, err := image.Take(stamp.Read(b)); err != want {
				t.Errorf("%d of %d bytes, behind % x: %d; want %d", left, left, head, int(err), int(want))
			}
		}
	}
}

// TestTakeRunes: P9.3: Runes about their end, and about those that are none; at once, or at the end.
func TestTakeRunes(t *testing.T) {
	for n, want := range map[int]api.Errno{
		0: api.OK, 0x7f: api.OK, 0x80: api.OK, 0xd7ff: api.OK, 0xd800: api.ErrForm, 0xdfff: api.ErrForm, 0xe000: api.OK, 0xfffd: api.OK, 0x10fffe: api.OK, 0x10ffff: api.OK,
		0x110000: api.ErrForm, 0x110001: api.ErrForm, 1 << 31: api.ErrForm, 1 << 32: api.ErrForm, 1<<32 + 0x61: api.ErrForm, math.MaxInt: api.ErrForm,
	} {
		left := 2
		if n > 0x10ffff {
			left = 6 // its State, no site twice, the Epoch
		}
		b := slices.Concat(row(0, 0, 1, 0, 1, 1, 1, 0, 0, n, 1, 0, 0, 0), []byte{7, 8})
		wantGiven(t, b, want, left)
	}
}

// TestTakeSites: P9.3: as many Joined and Left as there may be, and one more.
func TestTakeSites(t *testing.T) {
	var all []int
	for n := 1; n <= api.MaxSites; n++ {
		all = append(all, n)
	}
	head := []int{0, 0, 0, 0, 0}
	wantGiven(t, row(slices.Concat(head, []int{16}, all, []int{0, 16})...), api.OK, 0)
	wantGiven(t, row(slices.Concat(head, []int{0, 16}, all, []int{0})...), api.OK, 0)
	wantGiven(t, row(slices.Concat(head, []int{16}, all, []int{16}, all, []int{32})...), api.OK, 0)
	wantGiven(t, row(slices.Concat(head, []int{17}, all, []int{17, 0, 17})...), api.ErrForm, 19)
	wantGiven(t, row(slices.Concat(head, []int{0, 17}, all, []int{17, 0})...), api.ErrForm, 18)
	wantGiven(t, row(slices.Concat(head, []int{16}, all, []int{17}, all, []int{17, 0})...), api.ErrForm, 18)
	wantGiven(t, row(slices.Concat(head, []int{16}, all[1:], []int{17, 0, 16})...), api.ErrArg, 0)
}

// TestTakeForms: P9.3: the Reader's errors at each number: what is no number's form, and what is too short; they are the Reader's own, and what could not be taken is left.
func TestTakeForms(t *testing.T) {
	wantStopped := func(b []byte, want api.Errno, left int) {
		t.Helper()
		wantTaken(t, b)
		r := stamp.Read(b)
		if got, err := image.Take(r); !same(got, api.Image{}) || err != want || r.Err() != want || r.Left() != left {
			t.Errorf("Take of % x: %+v, %d, %d, %d left; want %d, %d left", b, got, int(err), int(r.Err()), r.Left(), int(want), left)
		}
	}
	for _, m := range []api.Image{first(), example(), rich()} {
		p := wantPieces(m)
		tail := len(p) - len(m.Joined) - len(m.Left) - 3 // where no number of operations or of nodes is ahead that could offend
		for i := range p {
			if slices.ContainsFunc(m.Log, func(o api.Op) bool { return o.Text != "" && o.Text == string(p[i]) }) {
				continue
			}
			for _, bad := range []string{"\x80\x00", "\xff\xff\xff\xff\xff\xff\xff\xff\xff\x01"} {
				rest := slices.Concat([]byte(bad), slices.Concat(p[i+1:]...))
				wantStopped(slices.Concat(slices.Concat(p[:i]...), rest), api.ErrForm, len(rest))
			}
			for _, bad := range []string{"\x85", ""} {
				b := append(slices.Concat(p[:i]...), bad...)
				if wantTaken(t, b); i >= tail {
					wantStopped(b, api.ErrShort, len(bad))
				}
			}
		}
	}
}

// TestTakeRefused: P9.3, W8: nil and zero Readers, and such as have stopped.
func TestTakeRefused(t *testing.T) {
	stopped := stamp.Read([]byte("\x80\x00" + exampleBytes))
	stopped.Number()
	short := stamp.Read([]byte("\x05" + zeroBytes[:4]))
	short.Text()
	for _, x := range []struct {
		r    *stamp.Reader
		want api.Errno
	}{{nil, api.ErrArg}, {&stamp.Reader{}, api.ErrShort}, {stamp.Read(nil), api.ErrShort}, {stopped, api.ErrForm}, {short, api.ErrShort}} {
		left := x.r.Left()
		for range 3 {
			got, err := image.Take(x.r)
			if !same(got, api.Image{}) || err != x.want || x.r.Err() != x.want || x.r.Left() != left {
				t.Errorf("%+v, %d, %d left; want %d, %d", got, int(err), x.r.Left(), int(x.want), left)
			}
		}
	}
}

// TestTakeRows: P9.3, P9.4, W1: all short rows of bytes about the limits, behind nothing and behind what leads to each part.
func TestTakeRows(t *testing.T) {
	for _, x := range []struct {
		head   string
		pieces []byte
		most   int
	}{
		{"", []byte{0, 1, 2}, 9},
		{"", []byte{0, 1, 17, 0x80}, 6},
		{"\x00\x00\x03\x00", []byte{0, 1, 2, 3}, 8},
		{"\x00\x00\x03\x00\x02\x01\x01\x00\x00a\x01", []byte{0, 1, 2, 4}, 7},
		{"\x01\x01\x01\x00\x03\x01", []byte{0, 1, 3, 4, 17}, 6},
		{"\x00\x00\x00\x00\x00", []byte{0, 1, 2, 3, 16, 17, 0x80}, 5},
	} {
		rows := [][]byte{nil}
		for at := 0; at < len(rows); at++ {
			wantTaken(t, append([]byte(x.head), rows[at]...))
			wantTaken(t, []byte(x.head+string(rows[at])+zeroBytes[:4]))
			if len(rows[at]) == x.most || t.Failed() {
				continue
			}
			for _, p := range x.pieces {
				rows = append(rows, append(slices.Clone(rows[at]), p))
			}
		}
	}
}

// TestTakeBytes: P9.3, P9.4, W1: wild rows of bytes, and what is right with some bytes turned, left out or put between.
func TestTakeBytes(t *testing.T) {
	r := rand.New(rand.NewSource(93))
	for range 30000 {
		b := make([]byte, r.Intn(40))
		for i := range b {
			b[i] = byte(r.Intn(4))
			if r.Intn(8) == 0 {
				b[i] = byte(r.Intn(256))
			}
		}
		wantTaken(t, b)
	}
	for range 30000 {
		b := wantBytes(right(r))
		for range 1 + r.Intn(2) {
			i := r.Intn(len(b))
			switch r.Intn(4) {
			case 0:
				b = slices.Delete(b, i, i+1)
			case 1:
				b = slices.Insert(b, i, byte(r.Intn(256)))
			default:
				b[i] = byte(r.Intn(256))
			}
		}
		wantTaken(t, b)
	}
}

// padded is the same image with lists that have spare room, with something in it.
func padded(m api.Image) api.Image {
	m = clone(m)
	for i := range m.Log {
		o := &m.Log[i]
		o.Deps, o.Gone = room(o.Deps, dot(7, 7)), room(o.Gone, run(7, 7, 7))
	}
	m.Vector, m.Base, m.Nodes = room(m.Vector, dot(7, 7)), room(m.Base, dot(7, 7)), room(m.Nodes, node(id(7, 7), id(6, 6), 'q', 1))
	m.Log, m.Joined, m.Left = room(m.Log, api.Op{Kind: 7}), room(m.Joined, 7), room(m.Left, 7)
	return m
}

func room[L ~[]T, T any](l L, x T) L {
	return append(slices.Clone(l), x, x)[:len(l)]
}

// whole is the same image with its lists drawn out over all their spare room.
func whole(m api.Image) api.Image {
	m.Log = slices.Clone(m.Log[:cap(m.Log)])
	for i := range m.Log {
		o := &m.Log[i]
		o.Deps, o.Gone = o.Deps[:cap(o.Deps)], o.Gone[:cap(o.Gone)]
	}
	m.Vector, m.Base, m.Nodes, m.Joined, m.Left = m.Vector[:cap(m.Vector)], m.Base[:cap(m.Base)], m.Nodes[:cap(m.Nodes)], m.Joined[:cap(m.Joined)], m.Left[:cap(m.Left)]
	return m
}

// spoils is how each list of an image by itself is turned, with its spare room; the lists within operations ahead of the Log.
func spoils(m api.Image) []func() {
	var l []func()
	for _, o := range m.Log {
		l = append(l, spoil(o.Deps, dot(-5, -5)), spoil(o.Gone, run(-5, -5, -5)))
	}
	return append(l, spoil(m.Vector, dot(-5, -5)), spoil(m.Base, dot(-5, -5)), spoil(m.Nodes, node(id(-5, -5), id(-5, -5), -5, -5)), spoil(m.Joined, -5), spoil(m.Left, -5),
		spoil(m.Log, api.Op{Kind: -5}))
}

func spoil[L ~[]T, T any](l L, x T) func() {
	return func() {
		for i := range l[:cap(l)] {
			l[:cap(l)][i] = x
		}
	}
}

// TestHandedIn: P9.6, W6: each call leaves the image as it is, the spare room of its lists too, and keeps nothing of it.
func TestHandedIn(t *testing.T) {
	all := edgy()
	for _, f := range faults() {
		all = append(all, turned(first(), f.do))
	}
	for _, m := range all {
		given, fresh := padded(m), padded(m)
		w := &stamp.Writer{}
		image.Put(w, given)
		laid := w.Data()
		image.Check(given)
		if !same(whole(given), whole(fresh)) || !same(given, m) {
			t.Errorf("%+v is changed: %+v", m, given)
		}
		for _, do := range spoils(given) {
			do()
		}
		if !bytes.Equal(w.Data(), laid) || wantCheck(m) == api.OK && !bytes.Equal(laid, wantBytes(m)) {
			t.Errorf("%+v: what was laid is changed: % x", m, w.Data())
		}
	}
}

// TestAnswered: P9.6, W6: what Take answers is new each time, the lists within each operation too; no two of its lists share anything, and the Reader goes on as if nothing had been.
func TestAnswered(t *testing.T) {
	// Lists of many lengths, as each leaves other room behind its end.
	all, chance := edgy(), rand.New(rand.NewSource(96))
	for range 300 {
		all = append(all, right(chance))
	}
	for _, m := range all {
		b := wantBytes(m)
		given := slices.Concat(b, b)
		r := stamp.Read(given)
		one, err := image.Take(r)
		if err != api.OK || !bytes.Equal(given, slices.Concat(b, b)) {
			t.Errorf("%+v: Take changed its bytes, %d", m, int(err))
		}
		for i := range given {
			given[i] = 0xff
		}
		for _, do := range spoils(one) {
			do()
		}
		if two, err := image.Take(r); err != api.OK || !same(two, m) || r.End() != api.OK {
			t.Errorf("%+v: behind it %+v, %d", m, two, int(err))
		}
		// Each list is turned by itself; all others are what they were.
		for i := range spoils(one) {
			got, _ := image.Take(stamp.Read(b))
			want := clone(m)
			spoils(got)[i]()
			spoils(want)[i]()
			if !same(got, want) {
				t.Errorf("%+v: list %d turned: %+v", m, i, got)
			}
		}
	}
}

// TestTakeLong: P9.3, P9.4, W1: many nodes and operations there and back; and numbers of them that promise more than there is.
func TestTakeLong(t *testing.T) {
	const n = 20000
	m := api.Image{Clock: n, Vector: vec(3, n)}
	for i := range n {
		m.Nodes = append(m.Nodes, node(id(n-i, 1), beginning, rune(i), 1))
		m.Log = append(m.Log, api.Op{Kind: api.OpLeave, Dot: dot(3, i+1)})
		if i > 0 {
			m.Log[i].Deps = vec(3, i)
		}
	}
	wantBack(t, m)
	b := wantBytes(m)
	for _, cut := range []int{1, 2, 100, len(b) / 2, len(b) - 10} {
		if _, err := image.Take(stamp.Read(b[:len(b)-cut])); err != api.ErrShort && err != api.ErrForm {
			t.Errorf("cut off by %d: %d", cut, int(err))
		}
	}
	promise := slices.Concat(row(0, 0, 0, 0, 1<<20), make([]byte, 1<<20))
	if _, err := image.Take(stamp.Read(promise)); err != api.ErrShort {
		t.Errorf("a promise of nodes: %d", int(err))
	}
}
