package op_test

import (
	"bytes"
	"math"
	"math/rand"
	"slices"
	"strings"
	"testing"

	"hearsay/api"
	"hearsay/op"
	"hearsay/stamp"
)

// insertBytes is what the chapter's examples say of insert.
const insertBytes = "\x01\x01\x02\x01\x01\x01\x05\x04\x03\x03\x68\xc3\xa9"

// edgy is operations that Check takes, at their limits.
func edgy() []api.Op {
	l := append(four(),
		turned(insert(), func(o *api.Op) { o.ID, o.Ref, o.Text = id(api.MaxTime, 1), id(api.MaxTime-1, 16), "a" }),
		turned(insert(), func(o *api.Op) { o.ID.Time, o.Ref = api.MaxTime-1, api.ID{} }),
		turned(insert(), func(o *api.Op) { o.Text = strings.Repeat("𝄞", api.MaxText) }),
		turned(insert(), func(o *api.Op) { o.Text = "\x00\x01\x7f" }),
		turned(remove(), func(o *api.Op) { o.Gone = spread(api.MaxGone) }),
		turned(remove(), func(o *api.Op) { o.Gone = []api.Run{run(1, 1, api.MaxTime), run(1, 16, api.MaxTime)} }),
		turned(remove(), func(o *api.Op) { o.Gone = []api.Run{run(api.MaxTime, 16, 1)} }),
		turned(join(), func(o *api.Op) { o.Site = api.MaxSites }),
	)
	var all []api.Op
	for _, o := range l {
		all = append(all, o, turned(clone(o), at(1, 1)), turned(clone(o), at(16, 128)), turned(clone(o), at(16, api.MaxSeq)))
	}
	return all
}

// wantLaid holds Put and Encode of an operation against what they must be.
func wantLaid(t *testing.T, o api.Op) {
	t.Helper()
	var want []byte
	if wantCheck(o) == api.OK {
		want = wantBytes(o)
	}
	w := &stamp.Writer{}
	op.Put(w, o)
	if !bytes.Equal(w.Data(), want) || w.Err() != api.OK {
		t.Errorf("Put of %+v: % x, %d; want % x", short(o), w.Data(), int(w.Err()), want)
	}
	got, err := op.Encode(o)
	if !bytes.Equal(got, want) || err != wantCheck(o) {
		t.Errorf("Encode of %+v: % x, %d; want % x", short(o), got, int(err), want)
	}
}

// wantBack decodes what was encoded.
func wantBack(t *testing.T, o api.Op) {
	t.Helper()
	b, err := op.Encode(o)
	if err != api.OK {
		t.Errorf("Encode of %+v: %d", short(o), int(err))
	}
	if got, err := op.Decode(b); err != api.OK || !same(got, o) {
		t.Errorf("Decode of what Encode says of %+v: %+v, %d", short(o), short(got), int(err))
	}
}

// wantTaken holds Take and Decode of some bytes against what they must be, with what is left then; what was taken is what Encode says of it.
func wantTaken(t *testing.T, b []byte) {
	t.Helper()
	r := stamp.Read(b)
	got, err := op.Take(r)
	want, left, wantE, stopped := wantTake(b)
	if !same(got, want) || err != wantE || r.Left() != left || (r.Err() != api.OK) != stopped {
		t.Errorf("Take of % x: %+v, %d, %d, %d left; want %+v, %d, %v, %d left", b, short(got), int(err), int(r.Err()), r.Left(), short(want), int(wantE), stopped, left)
	}
	if stopped && r.Err() != err {
		t.Errorf("Take of % x: %d, the Reader's is %d", b, int(err), int(r.Err()))
	}
	if again, e := op.Encode(got); err == api.OK && (e != api.OK || !bytes.Equal(again, b[:len(b)-left])) {
		t.Errorf("Take of % x: encoded again % x, %d", b, again, int(e))
	}
	if wantE == api.OK && left > 0 {
		want, wantE = api.Op{}, api.ErrForm
	}
	if got, err := op.Decode(b); !same(got, want) || err != wantE {
		t.Errorf("Decode of % x: %+v, %d; want %+v, %d", b, short(got), int(err), short(want), int(wantE))
	}
}

// TestExamplesOfBytes: the rows of the chapter's examples about bytes.
func TestExamplesOfBytes(t *testing.T) {
	if b, err := op.Encode(insert()); err != api.OK || string(b) != insertBytes {
		t.Errorf("Encode: % x, %d", b, int(err))
	}
	if o, err := op.Decode([]byte(insertBytes)); err != api.OK || !same(o, insert()) {
		t.Errorf("Decode: %+v, %d", o, int(err))
	}
	for b, want := range map[string]api.Errno{
		insertBytes[:12]: api.ErrShort, insertBytes + "\x00": api.ErrForm, "\x05": api.ErrOp, "\x03\x01\x01\x00\x11": api.ErrOp,
	} {
		if o, err := op.Decode([]byte(b)); err != want || !same(o, api.Op{}) {
			t.Errorf("Decode of % x: %+v, %d; want %d", b, o, int(err), int(want))
		}
	}
}

// TestPutBytes: P8.3: of each kind, byte for byte, written out.
func TestPutBytes(t *testing.T) {
	for _, x := range []struct {
		o    api.Op
		want string
	}{
		{insert(), insertBytes},
		{remove(), "\x02\x03\x01\x02\x01\x09\x02\x04\x02\x03\x01\x02\x04\x02\x01"},
		{join(), "\x03\x02\x01\x00\x02"},
		{leave(), "\x04\x10\x08\x02\x02\xac\x02\x10\x07"},
		{api.Op{Kind: api.OpLeave, Dot: dot(1, 1)}, "\x04\x01\x01\x00"},
		{api.Op{Kind: api.OpInsert, Dot: dot(1, 1), ID: id(1, 1), Text: "\x00"}, "\x01\x01\x01\x00\x01\x00\x00\x01\x00"},
		{api.Op{Kind: api.OpDelete, Dot: dot(16, api.MaxSeq), Deps: vec(16, api.MaxSeq-1), Gone: []api.Run{run(1, 16, api.MaxTime)}},
			"\x02\x10\xff\xff\xff\xff\x07\x01\x10\xfe\xff\xff\xff\x07\x01\x01\x10\xff\xff\xff\xff\x07"},
		{api.Op{Kind: api.OpInsert, Dot: dot(2, 1), ID: id(api.MaxTime, 2), Ref: id(128, 16), Text: "€"}, "\x01\x02\x01\x00\xff\xff\xff\xff\x07\x80\x01\x10\x03\xe2\x82\xac"},
	} {
		wantLaid(t, x.o)
		if b, err := op.Encode(x.o); err != api.OK || string(b) != x.want {
			t.Errorf("Encode of %+v: % x, %d; want % x", x.o, b, int(err), x.want)
		}
	}
	// A Text's length is that of its bytes, and of more than 127 has two.
	long := turned(insert(), func(o *api.Op) { o.Text = strings.Repeat("é", 100) })
	if b, _ := op.Encode(long); string(b) != insertBytes[:9]+"\xc8\x01"+long.Text {
		t.Errorf("Encode of a long text: % x", b)
	}
}

// TestPutBehind: P8.3: Put lays behind what was laid, others lay behind it, and what Check does not take lays nothing between.
func TestPutBehind(t *testing.T) {
	w := &stamp.Writer{}
	w.Text("ab")
	op.Put(w, join())
	op.Put(w, api.Op{})
	op.Put(w, insert())
	op.Put(w, turned(insert(), func(o *api.Op) { o.Text = "" }))
	op.Put(w, leave())
	w.Number(7)
	if got := string(w.Data()); got != "\x02ab\x03\x02\x01\x00\x02"+insertBytes+"\x04\x10\x08\x02\x02\xac\x02\x10\x07\x07" || w.Err() != api.OK {
		t.Errorf("% x, %d", got, int(w.Err()))
	}
	r := stamp.Read(w.Data())
	r.Text()
	for _, want := range []api.Op{join(), insert(), leave()} {
		if got, err := op.Take(r); err != api.OK || !same(got, want) {
			t.Errorf("%+v, %d; want %+v", got, int(err), want)
		}
	}
	if r.Number() != 7 || r.End() != api.OK {
		t.Errorf("%d left", r.Left())
	}
}

// TestPutRefused: P8.3, P8.5, W8: nil Writers and such as have an error take nothing; of an operation that Check does not take nothing is laid, and no Writer has an error of it.
func TestPutRefused(t *testing.T) {
	wrong := []api.Op{
		{}, {Kind: api.OpLeave}, {Kind: math.MaxInt, Dot: dot(1, 1)}, turned(insert(), func(o *api.Op) { o.Text = "\xff" }), turned(insert(), func(o *api.Op) { o.ID.Time = -1 }),
		turned(remove(), func(o *api.Op) { o.Gone = nil }), turned(remove(), func(o *api.Op) { o.Gone = spread(api.MaxGone + 1) }), turned(join(), func(o *api.Op) { o.Site = -1 }),
		turned(leave(), func(o *api.Op) { o.Site = 1 }), turned(leave(), func(o *api.Op) { o.Dot.Seq = math.MinInt }),
	}
	for _, o := range wrong {
		wantLaid(t, o)
		if b, err := op.Encode(o); len(b) > 0 || err != api.ErrOp {
			t.Errorf("Encode of %+v: % x, %d", short(o), b, int(err))
		}
	}
	for _, o := range append(wrong, edgy()...) {
		op.Put(nil, o)
		w := &stamp.Writer{}
		w.Number(5)
		w.Number(-1)
		op.Put(w, o)
		if string(w.Data()) != "\x05" || w.Err() != api.ErrArg {
			t.Errorf("%+v: % x, %d", short(o), w.Data(), int(w.Err()))
		}
	}
}

// TestThereAndBack: P8.3 to P8.6: at all limits, and of many operations; with some number turned, of what Check refuses.
func TestThereAndBack(t *testing.T) {
	for _, o := range edgy() {
		wantLaid(t, o)
		wantBack(t, o)
	}
	r := rand.New(rand.NewSource(85))
	for range 10000 {
		o := right(r)
		wantLaid(t, o)
		wantBack(t, o)
		l := numbersOf(&o)
		*l[r.Intn(len(l))] = edges[r.Intn(len(edges))]
		wantLaid(t, o)
	}
}

// TestPrefixes: P8.4 to P8.6: each prefix of what is right is too short, but the whole; with something behind, that is left to Take, and refused by Decode.
func TestPrefixes(t *testing.T) {
	for _, o := range edgy() {
		b := wantBytes(o)
		step := 1 + len(b)/300
		for n := 0; n < len(b); n += step {
			wantTaken(t, b[:n])
			if _, err := op.Decode(b[:n]); err != api.ErrShort {
				t.Errorf("Decode of % x: %d", b[:n], int(err))
			}
		}
		for _, behind := range []string{"", "\x00", "\x80", "\xff\xff", string(b)} {
			wantTaken(t, append(slices.Clone(b), behind...))
			r := stamp.Read(append(slices.Clone(b), behind...))
			if got, err := op.Take(r); err != api.OK || r.Err() != api.OK || r.Left() != len(behind) || !same(got, o) {
				t.Errorf("Take of %+v and % x: %d, %d left", short(o), behind, int(err), r.Left())
			}
			_, err := op.Decode(append(slices.Clone(b), behind...))
			if want := api.ErrForm; behind != "" && err != want {
				t.Errorf("Decode of %+v and % x: %d", short(o), behind, int(err))
			}
		}
	}
}

// TestTakeNumbers: P8.4: each number of what is right turned by itself, and cut off behind it, and with a second one behind it turned too.
func TestTakeNumbers(t *testing.T) {
	wrong := []int{0, 1, 2, 3, 4, 5, 6, 15, 16, 17, 127, 128, 1023, 1024, 1025, api.MaxTime - 1, api.MaxTime, api.MaxTime + 1, math.MaxInt - 1, math.MaxInt}
	for _, o := range append(four(), turned(insert(), at(16, 128)), turned(remove(), at(16, api.MaxSeq))) {
		numbers := wantNumbers(o)
		for i := range numbers {
			for _, n := range wrong {
				one := slices.Clone(numbers)
				one[i] = n
				wantTaken(t, append(row(one...), o.Text...))
				wantTaken(t, row(one[:i+1]...))
				for k := i + 1; k < len(numbers); k++ {
					for _, m := range []int{0, 1, 5, 17, 1025, math.MaxInt} {
						two := slices.Clone(one)
						two[k] = m
						wantTaken(t, append(row(two...), o.Text...))
					}
				}
			}
		}
	}
}

// TestTakeOrder: P8.4: which error comes first, and what is left then: what is behind the thing that offends, at once behind a Kind, within Deps and behind a number of runs, at the end for all else. The Reader has no error of its own, and goes on behind.
func TestTakeOrder(t *testing.T) {
	const end = -1 // all numbers are taken
	for _, x := range []struct {
		numbers []int
		taken   int
		want    api.Errno
	}{
		{[]int{0}, 1, api.ErrOp}, {[]int{5}, 1, api.ErrOp}, {[]int{5, 1, 1, 0}, 1, api.ErrOp}, {[]int{math.MaxInt, 9}, 1, api.ErrOp}, {[]int{1<<32 + 1, 1, 1, 0}, 1, api.ErrOp}, {[]int{257, 1, 1, 0}, 1, api.ErrOp},
		// Deps are looked at as they are taken, the Dot ahead of them is not.
		{[]int{4, 17, 0, 17, 1}, 4, api.ErrForm}, {[]int{4, 1, 1, 17, 1}, 4, api.ErrForm}, {[]int{4, 1, 1, 1, 0, 1}, 5, api.ErrForm}, {[]int{4, 1, 1, 1, 17, 1}, 5, api.ErrForm},
		{[]int{4, 1, 1, 1, 2, 0, 3}, 6, api.ErrForm}, {[]int{4, 1, 1, 1, 2, api.MaxSeq + 1, 3}, 6, api.ErrForm}, {[]int{4, 1, 1, 2, 2, 1, 2, 1, 3}, 7, api.ErrForm}, {[]int{2, 1, 1, 2, 2, 1, 3, 0, 1025}, 8, api.ErrForm},
		// A number of runs likewise; nothing behind it is taken, though it may be cut off there.
		{[]int{2, 1, 1, 0, 1025}, 5, api.ErrOp}, {[]int{2, 1, 1, 0, 1025, 1, 1, 1}, 5, api.ErrOp}, {[]int{2, 1, 1, 0, math.MaxInt, 1, 1}, 5, api.ErrOp}, {[]int{2, 17, 0, 0, 1025, 1, 1}, 5, api.ErrOp},
		// All else comes at the end.
		{[]int{4, 17, 1, 0}, end, api.ErrOp}, {[]int{4, 0, 1, 0}, end, api.ErrOp}, {[]int{4, 1, 0, 0}, end, api.ErrOp}, {[]int{4, 1, api.MaxSeq + 1, 1, 1, api.MaxSeq}, end, api.ErrOp},
		{[]int{4, 1, 2, 0}, end, api.ErrOp}, {[]int{4, 1, 1, 1, 1, 1}, end, api.ErrOp}, {[]int{3, 1, 1, 0, 0}, end, api.ErrOp}, {[]int{3, 1, 1, 0, 17}, end, api.ErrOp}, {[]int{3, 17, 0, 1, 2, 1, 99}, end, api.ErrOp},
		{[]int{2, 1, 1, 0, 0}, end, api.ErrOp}, {[]int{2, 1, 1, 0, 2, 0, 17, 0, 1, 1, 1}, end, api.ErrOp}, {[]int{2, 1, 1, 0, 2, 1, 1, 1, 2, 1, 1}, end, api.ErrOp}, {[]int{2, 1, 1, 0, 1, 1, 1, math.MaxInt}, end, api.ErrOp},
		{[]int{1, 1, 1, 0, 0, 0, 0, 1, 'a'}, end, api.ErrOp}, {[]int{1, 1, 1, 0, 5, 5, 1, 1, 'a'}, end, api.ErrOp}, {[]int{1, 1, 1, 0, 5, 4, 0, 1, 'a'}, end, api.ErrOp}, {[]int{1, 1, 1, 0, 5, 4, 1, 0}, end, api.ErrOp},
		{[]int{1, 17, 1, 0, 5, 4, 1, 1, 'a'}, end, api.ErrOp}, {[]int{1, 1, 1, 0, api.MaxTime, 0, 0, 2, 'a', 'b'}, end, api.ErrOp}, {[]int{1, 1, 1, 0, math.MaxInt, 0, 0, 2, 'a', 'b'}, end, api.ErrOp},
	} {
		taken := x.taken
		if taken == end {
			taken = len(x.numbers)
		}
		b := row(append(slices.Clone(x.numbers), 77, 78)...)
		wantTaken(t, b)
		wantTaken(t, row(x.numbers...))
		r := stamp.Read(b)
		got, err := op.Take(r)
		behind := append(slices.Clone(x.numbers[taken:]), 77, 78)
		if !same(got, api.Op{}) || err != x.want || r.Err() != api.OK || r.Left() != len(row(behind...)) {
			t.Errorf("%v: %+v, %d, %d, %d left", x.numbers, got, int(err), int(r.Err()), r.Left())
		}
		if n := r.Number(); n != behind[0] {
			t.Errorf("%v: behind what offends it goes on with %d; want %d", x.numbers, n, behind[0])
		}
		if x.taken == end && len(x.numbers) > 4 {
			// What would offend at the end is not looked at, where something is cut off.
			if _, err := op.Take(stamp.Read(row(x.numbers[:len(x.numbers)-1]...))); err != api.ErrShort {
				t.Errorf("%v, cut off: %d", x.numbers, int(err))
			}
		}
	}
}

// TestTakeTexts: P8.4: Texts whose bytes are too few (the length is left too), that are not good, and that are too long.
func TestTakeTexts(t *testing.T) {
	head := insertBytes[:9]
	for _, x := range []struct {
		rest string
		want api.Errno
		left int
	}{
		{"\x01a", api.OK, 0}, {"\x01ab", api.OK, 1}, {"\x00", api.ErrOp, 0}, {"\x00a", api.ErrOp, 1}, {"\x01", api.ErrShort, 1}, {"\x03ab", api.ErrShort, 3}, {"", api.ErrShort, 0},
		{"\x01\xff", api.ErrOp, 0}, {"\x01\xc3\xa9", api.ErrOp, 1}, {"\x02\xc3\xa9", api.OK, 0}, {"\x80\x00", api.ErrForm, 2}, {"\x81\x00a", api.ErrForm, 3}, {"\x81", api.ErrShort, 1},
		{"\xff\xff\xff\xff\xff\xff\xff\xff\x7fab", api.ErrShort, 11}, {"\xff\xff\xff\xff\xff\xff\xff\xff\xff\x01ab", api.ErrForm, 12},
		{"\x80\x08" + strings.Repeat("a", 1024), api.OK, 0}, {"\x81\x08" + strings.Repeat("a", 1025), api.ErrOp, 0}, {"\x80\x20" + strings.Repeat("𝄞", 1024), api.OK, 0},
		{"\x84\x20" + strings.Repeat("𝄞", 1025), api.ErrOp, 0}, {"\x80\x08" + strings.Repeat("a", 1023), api.ErrShort, 1025},
	} {
		b := []byte(head + x.rest)
		wantTaken(t, b)
		r := stamp.Read(b)
		if _, err := op.Take(r); err != x.want || r.Left() != x.left {
			t.Errorf("% x: %d, %d left; want %d, %d", x.rest[:min(len(x.rest), 12)], int(err), r.Left(), int(x.want), x.left)
		}
	}
}

// TestTakeForms: P8.4: the Reader's errors at each number of each kind: what is no number's form, and what is too short; they are the Reader's own, and what could not be taken is left.
func TestTakeForms(t *testing.T) {
	for _, o := range four() {
		numbers := wantNumbers(o)
		for i := range numbers {
			for bad, want := range map[string]api.Errno{"\x80\x00": api.ErrForm, "\xff\xff\xff\xff\xff\xff\xff\xff\xff\x01": api.ErrForm, "\x85": api.ErrShort, "": api.ErrShort} {
				b := append(row(numbers[:i]...), bad...)
				wantTaken(t, b)
				r := stamp.Read(b)
				if got, err := op.Take(r); !same(got, api.Op{}) || err != want || r.Err() != want || r.Left() != len(bad) {
					t.Errorf("%v, number %d, % x: %+v, %d, %d, %d left", numbers, i, bad, got, int(err), int(r.Err()), r.Left())
				}
			}
		}
	}
}

// TestTakeRefused: P8.4, W8: nil and zero Readers, and such as have stopped.
func TestTakeRefused(t *testing.T) {
	stopped := stamp.Read([]byte("\x80\x00" + insertBytes))
	stopped.Number()
	short := stamp.Read([]byte(insertBytes + "\x05\x01"))
	for range len(insertBytes) {
		short.Number()
	}
	short.Text()
	for _, x := range []struct {
		r    *stamp.Reader
		want api.Errno
	}{{nil, api.ErrArg}, {&stamp.Reader{}, api.ErrShort}, {stamp.Read(nil), api.ErrShort}, {stopped, api.ErrForm}, {short, api.ErrShort}} {
		left := x.r.Left()
		for range 3 {
			got, err := op.Take(x.r)
			if !same(got, api.Op{}) || err != x.want || x.r.Err() != x.want || x.r.Left() != left {
				t.Errorf("%+v, %d, %d left; want %d, %d", got, int(err), x.r.Left(), int(x.want), left)
			}
		}
	}
	for _, none := range [][]byte{nil, {}} {
		if got, err := op.Decode(none); err != api.ErrShort || !same(got, api.Op{}) {
			t.Errorf("Decode of nothing: %+v, %d", got, int(err))
		}
	}
}

// TestTakeRows: P8.4 to P8.6, W1: all short rows of bytes about the limits, behind nothing and behind what each kind begins with.
func TestTakeRows(t *testing.T) {
	for _, x := range []struct {
		head   string
		pieces []byte
		most   int
	}{
		{"", []byte{0, 1, 2, 3, 4, 5, 16, 17, 0x80}, 5},
		{"\x01\x01\x01\x00", []byte{0, 1, 2, 'a', 0xc3, 0xa9, 0x80}, 6},
		{"\x02\x01\x01\x00", []byte{0, 1, 2, 3, 17, 0x80}, 7},
		{"\x02\x02\x02\x01\x02\x01\x02", []byte{1, 2, 3, 4}, 6},
		{"\x03\x02\x02", []byte{0, 1, 2, 16, 17, 0x80, 0xff}, 5},
		{"\x04\x02\x02", []byte{0, 1, 2, 3, 16, 17, 0x80}, 5},
	} {
		rows := [][]byte{nil}
		for at := 0; at < len(rows); at++ {
			wantTaken(t, append([]byte(x.head), rows[at]...))
			if len(rows[at]) == x.most || t.Failed() {
				continue
			}
			for _, p := range x.pieces {
				rows = append(rows, append(slices.Clone(rows[at]), p))
			}
		}
	}
}

// TestTakeBytes: P8.4 to P8.6, W1: wild rows of bytes, and what is right with some bytes turned, left out or put between.
func TestTakeBytes(t *testing.T) {
	r := rand.New(rand.NewSource(86))
	for range 50000 {
		b := make([]byte, r.Intn(40))
		for i := range b {
			b[i] = byte(r.Intn(6))
			if r.Intn(6) == 0 {
				b[i] = byte(r.Intn(256))
			}
		}
		wantTaken(t, b)
	}
	for range 50000 {
		b := wantBytes(right(r))
		for range 1 + r.Intn(2) {
			i := r.Intn(len(b))
			switch r.Intn(4) {
			case 0:
				b = slices.Delete(b, i, i+1)
			case 1:
				b = slices.Insert(b, i, byte(r.Intn(256)))
			default:
				b[i] = byte(r.Intn(256))
			}
			if len(b) == 0 {
				break
			}
		}
		wantTaken(t, b)
	}
}

// TestUnlike: P8.6: unlike operations have unlike bytes, and no one's bytes are the beginning of another's.
func TestUnlike(t *testing.T) {
	r := rand.New(rand.NewSource(87))
	ops := edgy()
	for range 20000 {
		ops = append(ops, right(r))
	}
	// Operations that differ in one number alone.
	for _, o := range four() {
		for i := range numbersOf(&o) {
			for n := range 20 {
				one := clone(o)
				*numbersOf(&one)[i] = n
				ops = append(ops, one)
			}
		}
	}
	by := map[string]api.Op{}
	var rows []string
	for _, o := range ops {
		b, err := op.Encode(o)
		if err != api.OK {
			continue
		}
		was, known := by[string(b)]
		if known && !same(was, o) {
			t.Errorf("%+v and %+v have the same bytes", short(was), short(o))
		}
		if !known {
			rows = append(rows, string(b))
		}
		by[string(b)] = o
	}
	// In their order, one that is the beginning of another is that of the one behind it too.
	slices.Sort(rows)
	for i := 1; i < len(rows); i++ {
		if strings.HasPrefix(rows[i], rows[i-1]) {
			t.Errorf("% x is the beginning of % x", rows[i-1], rows[i])
		}
	}
	if len(rows) < 10000 {
		t.Errorf("%d rows alone", len(rows))
	}
}

// padded is the same operation with lists that have spare room; and both lists with that room, which has something in it.
func padded(o api.Op) (api.Op, api.Vector, []api.Run) {
	deps := append(slices.Clone(o.Deps), dot(7, 7), dot(8, 8))
	gone := append(slices.Clone(o.Gone), run(7, 7, 7), run(8, 8, 8))
	o.Deps, o.Gone = deps[:len(o.Deps)], gone[:len(o.Gone)]
	return o, deps, gone
}

// spoil turns all that an operation's lists have, their spare room too.
func spoil(o api.Op) {
	deps, gone := o.Deps[:cap(o.Deps)], o.Gone[:cap(o.Gone)]
	for i := range deps {
		deps[i] = dot(-5, -5)
	}
	for i := range gone {
		gone[i] = run(-5, -5, -5)
	}
}

// TestHandedIn: P8.7, W6: each call leaves the operation as it is, the spare room of its lists too, and keeps nothing of it.
func TestHandedIn(t *testing.T) {
	for _, o := range append(edgy(), api.Op{}, turned(remove(), func(o *api.Op) { o.Gone[1].Count = 0 }), turned(leave(), func(o *api.Op) { o.Deps = vec(16, 7, 2, 1) })) {
		given, deps, gone := padded(o)
		_, freshDeps, freshGone := padded(o)
		w := &stamp.Writer{}
		op.Put(w, given)
		b, err := op.Encode(given)
		if op.Check(given) != err {
			t.Errorf("%+v: %d", short(o), int(err))
		}
		op.Last(given)
		if !slices.Equal(deps, freshDeps) || !slices.Equal(gone, freshGone) || !same(given, o) {
			t.Errorf("%+v is changed: %+v, %v, %v", short(o), short(given), deps, gone)
		}
		spoil(given)
		if !bytes.Equal(w.Data(), b) || err == api.OK && !bytes.Equal(b, wantBytes(o)) {
			t.Errorf("%+v: what was laid is changed: % x, % x", short(o), w.Data(), b)
		}
	}
}

// TestAnswered: P8.7, W6: what is answered is new each time: bytes, and the lists of operations, spare room too; bytes that are handed in are neither changed nor kept.
func TestAnswered(t *testing.T) {
	for _, o := range edgy() {
		want := wantBytes(o)
		given := append(slices.Clone(want), 9, 9)
		first, err := op.Decode(given[:len(want)])
		if err != api.OK || !bytes.Equal(given, append(slices.Clone(want), 9, 9)) {
			t.Errorf("%+v: Decode changed its bytes, %d", short(o), int(err))
		}
		for i := range given {
			given[i] = 0xff
		}
		if !same(first, o) {
			t.Errorf("%+v is kept: %+v", short(o), short(first))
		}
		r := stamp.Read(slices.Concat(want, want))
		one, _ := op.Take(r)
		spoil(one)
		if two, err := op.Take(r); err != api.OK || !same(two, o) || r.End() != api.OK {
			t.Errorf("a second %+v: %+v, %d", short(o), short(two), int(err))
		}
		b, _ := op.Encode(o)
		b = b[:cap(b)]
		for i := range b {
			b[i] = 0xff
		}
		if again, err := op.Encode(o); err != api.OK || !bytes.Equal(again, want) || !same(first, o) {
			t.Errorf("%+v: what Encode answered is shared", short(o))
		}
	}
}
