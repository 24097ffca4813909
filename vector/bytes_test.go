package vector_test

import (
	"bytes"
	"math"
	"math/rand"
	"slices"
	"testing"

	"hearsay/api"
	"hearsay/stamp"
	"hearsay/vector"
)

// laid is what Put lays of a list, on a Writer that has laid nothing yet.
func laid(v api.Vector) []byte {
	w := &stamp.Writer{}
	vector.Put(w, v)
	return w.Data()
}

// wantTaken holds Take of some bytes against what it must be, with what is left then; the Reader has an error of its own only where a number could not be taken. What was taken Put lays again.
func wantTaken(t *testing.T, b []byte) {
	t.Helper()
	r := stamp.Read(b)
	got, err := vector.Take(r)
	want, left, wantE := wantTake(b)
	if !slices.Equal(got, want) || err != wantE || r.Left() != left {
		t.Errorf("Take of % x: %v, %d, %d left; want %v, %d, %d left", b, got, int(err), r.Left(), want, int(wantE), left)
	}
	if err != api.OK {
		if got != nil {
			t.Errorf("Take of % x: a list beside an error: %v", b, got)
		}
		return
	}
	if taken := b[:len(b)-r.Left()]; r.Err() != api.OK || vector.Check(got) != api.OK || !bytes.Equal(laid(got), taken) {
		t.Errorf("Take of % x: %v, laid again % x", b, got, laid(got))
	}
}

// wantBack lays a list and takes it again, with more bytes behind it and without.
func wantBack(t *testing.T, v api.Vector) {
	t.Helper()
	b := laid(v)
	if !bytes.Equal(b, row(wantNumbers(v)...)) {
		t.Errorf("Put of %v: % x; want %v", v, b, wantNumbers(v))
	}
	for _, behind := range []string{"", "\x00", "\x80", "\xff\x01\x02"} {
		r := stamp.Read(append(slices.Clone(b), behind...))
		got, err := vector.Take(r)
		wantList(t, "Take of what Put laid", got, wantVector(v))
		if err != api.OK || r.Err() != api.OK || r.Left() != len(behind) {
			t.Errorf("Take of what Put laid of %v: %d, %d, %d left", v, int(err), int(r.Err()), r.Left())
		}
	}
}

// TestExamplesOfBytes: the rows of the chapter's examples about bytes.
func TestExamplesOfBytes(t *testing.T) {
	if got := laid(of(3, 2, 1, 5, 3, 1)); !bytes.Equal(got, row(2, 1, 5, 3, 2)) {
		t.Errorf("% x", got)
	}
	for _, x := range []struct {
		numbers []int
		want    api.Vector
		err     api.Errno
	}{
		{[]int{1, 4, 9}, of(4, 9), api.OK}, {[]int{2, 4, 9, 4, 1}, nil, api.ErrForm}, {[]int{1, 4, 0}, nil, api.ErrForm},
		{[]int{17}, nil, api.ErrForm}, {[]int{1, 4}, nil, api.ErrShort},
	} {
		got, err := vector.Take(stamp.Read(row(x.numbers...)))
		wantList(t, "Take", got, x.want)
		wantErr(t, x.numbers, err, x.err)
	}
}

// TestThereAndBack: P7.5, P7.9: lists that are vectors and such that are none, none at all, and the greatest there are.
func TestThereAndBack(t *testing.T) {
	for _, v := range fewDots() {
		wantBack(t, v)
	}
	for n := range api.MaxSites + 1 {
		for _, seq := range []int{1, 127, 128, 16383, 16384, api.MaxSeq - 1, api.MaxSeq} {
			wantBack(t, full(seq)[:n])
			wantBack(t, full(seq)[n:])
		}
	}
	for _, d := range edgeDots() {
		wantBack(t, api.Vector{d})
		wantBack(t, api.Vector{dot(9, 3), d, dot(4, 200), d})
	}
	r := rand.New(rand.NewSource(79))
	for range 2000 {
		wantBack(t, wild(r, 60))
	}
	if b := laid(nil); !bytes.Equal(b, []byte{0}) {
		t.Errorf("Put of none: % x", b)
	}
}

// TestPutBehind: P7.5: Put lays behind what was laid, and others lay behind it.
func TestPutBehind(t *testing.T) {
	w := &stamp.Writer{}
	w.Text("ab")
	vector.Put(w, of(2, 300))
	vector.Put(w, nil)
	vector.Put(w, of(0, 1, 1, 1))
	w.Number(7)
	if got := string(w.Data()); got != "\x02ab\x01\x02\xac\x02\x00\x01\x01\x01\x07" || w.Err() != api.OK {
		t.Errorf("% x", got)
	}
	r := stamp.Read(w.Data())
	r.Text()
	for _, want := range []api.Vector{of(2, 300), nil, of(1, 1)} {
		got, err := vector.Take(r)
		wantList(t, "Take", got, want)
		wantErr(t, want, err, api.OK)
	}
	if r.Number() != 7 || r.End() != api.OK {
		t.Errorf("%d left", r.Left())
	}
}

// TestPutRefused: P7.5, W8: a nil Writer takes nothing, and one that has an error lays nothing more.
func TestPutRefused(t *testing.T) {
	for _, v := range []api.Vector{nil, of(1, 5), of(0, 1), full(api.MaxSeq)} {
		vector.Put(nil, v)
		w := &stamp.Writer{}
		w.Number(5)
		w.Number(-1)
		vector.Put(w, v)
		if string(w.Data()) != "\x05" || w.Err() != api.ErrArg {
			t.Errorf("%v: % x, %d", v, w.Data(), int(w.Err()))
		}
	}
}

// TestTakePrefixes: P7.6: each prefix of what is right is too short, but the whole.
func TestTakePrefixes(t *testing.T) {
	for _, v := range []api.Vector{nil, of(4, 9), of(1, 128, 3, 300, 16, api.MaxSeq), full(1), full(api.MaxSeq)} {
		b := laid(v)
		for n := range len(b) + 1 {
			wantTaken(t, b[:n])
			_, err := vector.Take(stamp.Read(b[:n]))
			if want := api.ErrShort; n < len(b) && err != want {
				t.Errorf("Take of % x: %d", b[:n], int(err))
			}
		}
		wantTaken(t, append(slices.Clone(b), b...))
	}
}

// TestTakeOffends: P7.6: a number that offends at each place, in each way, and what is left then; more of them behind it, of which the first one counts.
func TestTakeOffends(t *testing.T) {
	wrong := []int{0, 1, 2, 15, 16, 17, 127, 128, 16384, api.MaxSeq, api.MaxSeq + 1, math.MaxInt}
	for _, v := range []api.Vector{of(4, 9), of(2, 3, 5, 700, 16, 1), full(2), full(api.MaxSeq)} {
		right := wantNumbers(v)
		for i := range right {
			for _, n := range wrong {
				numbers := slices.Clone(right)
				numbers[i] = n
				wantTaken(t, row(numbers...))
				wantTaken(t, row(numbers[:i+1]...))
				for k := i + 1; k < len(right); k += 3 {
					numbers[k] = 0
					wantTaken(t, row(numbers...))
				}
			}
		}
	}
}

// TestTakeStops: P7.6: once something offends no number is taken any more, though the Reader has no error of its own.
func TestTakeStops(t *testing.T) {
	for _, x := range []struct {
		numbers []int
		taken   int
	}{
		{[]int{17, 1, 1}, 1}, {[]int{math.MaxInt, 1, 1}, 1}, {[]int{1, 0, 5}, 2}, {[]int{1, 17, 0}, 2}, {[]int{1, 4, 0, 9}, 3}, {[]int{1, 4, api.MaxSeq + 1, 9}, 3},
		{[]int{2, 4, 9, 4, 1}, 4}, {[]int{2, 4, 9, 3, 1}, 4}, {[]int{2, 16, 9, 17, 1}, 4}, {[]int{2, 4, 9, 5, 0, 3}, 5}, {[]int{2, 4, 0, 4, 0}, 3},
	} {
		r := stamp.Read(row(x.numbers...))
		got, err := vector.Take(r)
		if len(got) > 0 || err != api.ErrForm || r.Err() != api.OK || r.Left() != len(row(x.numbers[x.taken:]...)) {
			t.Errorf("%v: %v, %d, %d, %d left", x.numbers, got, int(err), int(r.Err()), r.Left())
		}
		if next := x.numbers[x.taken:]; len(next) > 0 && r.Number() != next[0] {
			t.Errorf("%v: it does not go on behind what offends", x.numbers)
		}
	}
}

// TestTakeBytes: P7.6, P7.9: all rows of up to six bytes about the limits, and wild ones: numbers that are not in their form at each place among them.
func TestTakeBytes(t *testing.T) {
	pieces := []byte{0, 1, 2, 16, 17, 0x7f, 0x80}
	rows := [][]byte{nil}
	for at := 0; at < len(rows); at++ {
		wantTaken(t, rows[at])
		if len(rows[at]) == 6 || t.Failed() {
			continue
		}
		for _, p := range pieces {
			rows = append(rows, append(slices.Clone(rows[at]), p))
		}
	}
	r := rand.New(rand.NewSource(76))
	for range 100000 {
		b := make([]byte, r.Intn(24))
		for i := range b {
			b[i] = byte(r.Intn(20))
			if r.Intn(6) == 0 {
				b[i] = byte(r.Intn(256))
			}
		}
		wantTaken(t, b)
	}
	for range 20000 {
		b := laid(wild(r, 30))
		b[r.Intn(len(b))] = byte(r.Intn(256))
		wantTaken(t, b)
	}
}

// TestTakeForms: P7.6: the Reader's errors at each place of a vector: what is no number's form, and what is too short.
func TestTakeForms(t *testing.T) {
	right := wantNumbers(of(2, 3, 5, 700))
	for i := range right {
		for bad, want := range map[string]api.Errno{"\x80\x00": api.ErrForm, "\xff\xff\xff\xff\xff\xff\xff\xff\xff\x01": api.ErrForm, "\x85": api.ErrShort, "": api.ErrShort} {
			r := stamp.Read(append(row(right[:i]...), bad...))
			got, err := vector.Take(r)
			if len(got) > 0 || err != want || r.Err() != want || r.Left() != len(bad) {
				t.Errorf("%d, % x: %v, %d, %d, %d left", i, bad, got, int(err), int(r.Err()), r.Left())
			}
		}
	}
}

// TestTakeRefused: P7.6, W8: nil and zero Readers, and such as have stopped.
func TestTakeRefused(t *testing.T) {
	stopped := stamp.Read([]byte{0x80, 0x00, 0x01, 0x01, 0x01})
	stopped.Number()
	short := stamp.Read([]byte{0x05, 0x01})
	short.Text()
	for _, x := range []struct {
		r    *stamp.Reader
		want api.Errno
		left int
	}{{nil, api.ErrArg, 0}, {&stamp.Reader{}, api.ErrShort, 0}, {stamp.Read(nil), api.ErrShort, 0}, {stopped, api.ErrForm, 5}, {short, api.ErrShort, 2}} {
		for range 3 {
			got, err := vector.Take(x.r)
			if got != nil || err != x.want || x.r.Err() != x.want || x.r.Left() != x.left {
				t.Errorf("%v, %d, %d left; want %d", got, int(err), x.r.Left(), int(x.want))
			}
		}
	}
}

// TestMemoryOfBytes: P7.10, W6: Put changes no list, spare room too, and keeps none; what Take answers is new each time.
func TestMemoryOfBytes(t *testing.T) {
	for _, v := range []api.Vector{nil, of(4, 9), of(3, 2, 1, 5, 3, 1), of(0, 1, 1, 0), full(3)} {
		list, whole := padded(v)
		w := &stamp.Writer{}
		vector.Put(w, list)
		_, fresh := padded(v)
		wantList(t, "what was handed in", whole, fresh)
		spoil(whole)
		if !bytes.Equal(w.Data(), row(wantNumbers(v)...)) {
			t.Errorf("%v: % x", v, w.Data())
		}
		r := stamp.Read(append(w.Data(), w.Data()...))
		first, _ := vector.Take(r)
		spoil(first)
		second, err := vector.Take(r)
		wantList(t, "a second vector", second, wantVector(v))
		wantErr(t, v, err, api.OK)
		spoil(second)
		if r.End() != api.OK {
			t.Errorf("%v: %d left", v, r.Left())
		}
	}
}
