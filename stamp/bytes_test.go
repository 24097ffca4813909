package stamp_test

import (
	"bytes"
	"math"
	"math/rand"
	"slices"
	"strings"
	"testing"

	"hearsay/api"
	"hearsay/stamp"
)

// lay lays one thing.
func lay(w *stamp.Writer, x thing) {
	if x.isText {
		w.Text(x.text)
	} else {
		w.Number(x.number)
	}
}

// take takes one thing.
func take(r *stamp.Reader, isText bool) thing {
	if isText {
		return text(r.Text())
	}
	return num(r.Number())
}

// laid is a Writer that has laid these things.
func laid(things ...thing) *stamp.Writer {
	w := &stamp.Writer{}
	for _, x := range things {
		lay(w, x)
	}
	return w
}

// wantWriter holds Data and Err against what they must be at this moment.
func wantWriter(t *testing.T, w *stamp.Writer, data string, err api.Errno) {
	t.Helper()
	if string(w.Data()) != data || w.Err() != err {
		t.Errorf("% x, %d; want % x, %d", w.Data(), int(w.Err()), data, int(err))
	}
}

// wantReader holds Left, Err and End against what they must be at this moment.
func wantReader(t *testing.T, r *stamp.Reader, left int, err, end api.Errno) {
	t.Helper()
	if r.Left() != left || r.Err() != err || r.End() != end {
		t.Errorf("%d left, %d, %d; want %d, %d, %d", r.Left(), int(r.Err()), int(r.End()), left, int(err), int(end))
	}
}

// wantWriting lays things one by one, and holds each moment against what is worked out a second time.
func wantWriting(t *testing.T, things []thing) {
	t.Helper()
	w := &stamp.Writer{}
	wantWriter(t, w, "", api.OK)
	for i, x := range things {
		lay(w, x)
		data, err := wantLaid(things[:i+1])
		wantWriter(t, w, data, err)
	}
}

// wantReading takes things one by one, and holds each moment against what is worked out a second time; what was taken, laid again, is the same bytes.
func wantReading(t *testing.T, b string, asked []bool) {
	t.Helper()
	r := stamp.Read([]byte(b))
	k := &taker{left: b}
	again := &stamp.Writer{}
	for i, isText := range asked {
		got, want := take(r, isText), k.next(isText)
		if got != want || r.Left() != len(k.left) || r.Err() != k.err || r.End() != k.end() {
			t.Errorf("Read(% x), %v, call %d: %v, %d left, %d, %d; want %v, %q, %d, %d", b, asked, i, got, r.Left(), int(r.Err()), int(r.End()), want, k.left, int(k.err), int(k.end()))
		}
		if r.Err() == api.OK {
			lay(again, got)
		}
	}
	if taken := b[:len(b)-r.Left()]; string(again.Data()) != taken || again.Err() != api.OK {
		t.Errorf("Read(% x), %v: laid again: % x", b, asked, again.Data())
	}
}

// TestExamplesOfBytes: the rows of the chapter's examples about bytes.
func TestExamplesOfBytes(t *testing.T) {
	w := laid(num(300), text("ab"), num(-1), text("c"))
	wantWriter(t, w, "\xac\x02\x02\x61\x62", api.ErrArg)
	r := stamp.Read([]byte{0xac, 0x02, 0x02, 0x61, 0x62})
	if n, s, m := r.Number(), r.Text(), r.Number(); n != 300 || s != "ab" || m != 0 {
		t.Errorf("%d, %q, %d", n, s, m)
	}
	wantReader(t, r, 0, api.ErrShort, api.ErrShort)
	r = stamp.Read([]byte{0x80, 0x00})
	if n := r.Number(); n != 0 {
		t.Errorf("%d", n)
	}
	wantReader(t, r, 2, api.ErrForm, api.ErrForm)
	r = stamp.Read([]byte{0x05, 0x61})
	if s := r.Text(); s != "" {
		t.Errorf("%q", s)
	}
	wantReader(t, r, 2, api.ErrShort, api.ErrShort)
}

// TestNumberLimits: P6.5, P6.6, P6.9: one to nine groups, each at its limits.
func TestNumberLimits(t *testing.T) {
	for v, want := range map[int]string{
		0: "\x00", 1: "\x01", 127: "\x7f", 128: "\x80\x01", 129: "\x81\x01", 255: "\xff\x01", 300: "\xac\x02", 16383: "\xff\x7f", 16384: "\x80\x80\x01",
		math.MaxInt: "\xff\xff\xff\xff\xff\xff\xff\xff\x7f", 1 << 62: "\x80\x80\x80\x80\x80\x80\x80\x80\x40",
		1 << 56: "\x80\x80\x80\x80\x80\x80\x80\x80\x01", 1<<56 - 1: "\xff\xff\xff\xff\xff\xff\xff\x7f",
	} {
		wantWriter(t, laid(num(v)), want, api.OK)
		r := stamp.Read([]byte(want))
		if got := r.Number(); got != v {
			t.Errorf("Number of % x: %d; want %d", want, got, v)
		}
		wantReader(t, r, 0, api.OK, api.OK)
	}
	for n := range 63 {
		for _, v := range []int{1<<n - 1, 1 << n, 1<<n + 1, math.MaxInt >> n, math.MaxInt - 1<<n, 0x5a5a5a5a5a5a5a5a >> n} {
			wantWriting(t, []thing{num(v)})
			wantReading(t, wantNumber(v), []bool{false, false})
			// Width by groups, not by what the second working out says.
			if width := len(laid(num(v)).Data()); v > 0 && (v>>(7*(width-1)) == 0 || width < 9 && v>>(7*width) != 0) {
				t.Errorf("%d has %d bytes", v, width)
			}
		}
	}
}

// TestWriterStops: P6.5: numbers below 0 at each place; nothing is laid then or later, and the first error stays.
func TestWriterStops(t *testing.T) {
	for _, v := range []int{-1, -2, -127, -128, -api.MaxTime, math.MinInt + 1, math.MinInt} {
		wantWriting(t, []thing{num(v)})
		wantWriting(t, []thing{num(v), num(1), text("a"), num(v), text("")})
		wantWriting(t, []thing{num(0), num(v), num(0)})
		wantWriting(t, []thing{text(""), num(v), text(""), num(v)})
		wantWriting(t, []thing{text("ab"), num(300), num(v), text("c"), num(7)})
	}
	w := laid(num(5))
	wantWriter(t, w, "\x05", api.OK)
	w.Number(-5)
	wantWriter(t, w, "\x05", api.ErrArg)
	w.Text("x")
	w.Number(5)
	wantWriter(t, w, "\x05", api.ErrArg)
}

// TestWriterTexts: P6.5, P6.9: texts of nothing, of any bytes, and of lengths about the limits of groups.
func TestWriterTexts(t *testing.T) {
	wantWriter(t, laid(text("")), "\x00", api.OK)
	wantWriter(t, laid(text("é\xff\x00")), "\x04é\xff\x00", api.OK)
	for _, n := range []int{1, 126, 127, 128, 129, 16383, 16384, 100000} {
		s := strings.Repeat("\xffé", n)[:n]
		wantWriting(t, []thing{text(s), num(1)})
		wantReading(t, wantNumber(n)+s, []bool{true, true})
		wantReading(t, wantNumber(n)+s+"\x00", []bool{true, true, true})
		wantReading(t, wantNumber(n)+s[1:], []bool{true, true})
	}
	for b := range 256 {
		wantWriting(t, []thing{text(string([]byte{byte(b)})), text(string([]byte{byte(b), 0}))})
	}
	long := strings.Repeat("hearsay", 1<<20)
	r := stamp.Read(laid(text(long), num(3)).Data())
	if r.Text() != long || r.Number() != 3 || r.End() != api.OK {
		t.Error("a long text")
	}
}

// TestNilWriter: P6.5, W8.
func TestNilWriter(t *testing.T) {
	var w *stamp.Writer
	for _, x := range []thing{num(1), text("a"), num(-1), text("")} {
		lay(w, x)
		if len(w.Data()) != 0 || w.Err() != api.ErrArg {
			t.Errorf("%x, %d", w.Data(), int(w.Err()))
		}
	}
	var zero stamp.Writer
	wantWriter(t, &zero, "", api.OK)
	zero.Text("a")
	wantWriter(t, &zero, "\x01a", api.OK)
}

// plans is which things are asked for, one after the other.
var plans = [][]bool{
	{false, false, false, false}, {true, true, true, true}, {false, true, false, true}, {true, false, true, false}, {true, true, false, false},
}

// TestReaderRows: P6.6, P6.7, P6.9: of all rows of up to two bytes, and of longer ones of bytes about the limits.
func TestReaderRows(t *testing.T) {
	var rows []string
	for a := range 256 {
		rows = append(rows, string([]byte{byte(a)}))
		for b := range 256 {
			rows = append(rows, string([]byte{byte(a), byte(b)}))
		}
	}
	rows = append(rows, "")
	for n := 3; n <= 5; n++ {
		for _, row := range every([]byte{0, 1, 2, 0x7f, 0x80, 0x82}, n) {
			rows = append(rows, string(row))
		}
	}
	for i, row := range rows {
		wantReading(t, row, plans[i%len(plans)])
		if len(row) < 2 || len(row) == 3 {
			for _, p := range plans {
				wantReading(t, row, p)
			}
		}
		if t.Failed() {
			return
		}
	}
}

// TestLongNumbers: P6.6: which error comes first, of numbers about nine bytes long, of noughts at their end, of too few bytes.
func TestLongNumbers(t *testing.T) {
	for n := range 13 {
		for _, high := range []string{"\x80", "\x81", "\xff"} {
			for _, end := range []string{"", "\x00", "\x01", "\x7f", "\x00\x05", "\x01\x05"} {
				row := strings.Repeat(high, n) + end
				wantReading(t, row, plans[0])
				wantReading(t, row, plans[1])
			}
		}
	}
	high := strings.Repeat("\x80", 8)
	for row, want := range map[string]api.Errno{
		"": api.ErrShort, "\x80": api.ErrShort, high: api.ErrShort, high + "\x80": api.ErrForm, high + "\xff": api.ErrForm, high + "\xff\x01": api.ErrForm,
		high + "\x00": api.ErrForm, "\x80\x00": api.ErrForm, "\x81\x80\x00": api.ErrForm, "\xff\xff\xff\x00\x00": api.ErrForm,
	} {
		for _, isText := range []bool{false, true} {
			r := stamp.Read([]byte(row))
			for range 3 {
				if got := take(r, isText); got.number != 0 || got.text != "" {
					t.Errorf("% x: %v", row, got)
				}
				wantReader(t, r, len(row), want, want)
			}
		}
	}
}

// TestReaderTexts: P6.6: lengths of which fewer bytes are left, up to the greatest int: the length is left too.
func TestReaderTexts(t *testing.T) {
	for _, n := range []int{0, 1, 2, 3, 4, 127, 128, api.MaxTime, math.MaxInt - 12, math.MaxInt - 1, math.MaxInt} {
		for _, tail := range []string{"", "a", "ab", "abc", "\x00\xff\x80a"} {
			for _, p := range plans {
				wantReading(t, wantNumber(n)+tail, p)
				wantReading(t, "\x01"+wantNumber(n)+tail, append([]bool{false}, p...))
			}
		}
	}
	r := stamp.Read([]byte("\x07\x02a\x00"))
	if r.Number() != 7 || r.Err() != api.OK || r.Left() != 3 || r.End() != api.ErrForm {
		t.Error("the number ahead")
	}
	if s := r.Text(); s != "a\x00" || r.End() != api.OK {
		t.Errorf("%q, %d", s, int(r.End()))
	}
	// A Reader that has stopped takes nothing any more, though there is something that could be taken.
	r = stamp.Read([]byte("\x05a\x01b"))
	for range 3 {
		if s, n := r.Text(), r.Number(); s != "" || n != 0 {
			t.Errorf("%q, %d", s, n)
		}
		wantReader(t, r, 4, api.ErrShort, api.ErrShort)
	}
}

// TestEmptyReaders: P6.7, W8: zero ones and nil ones, and Read of nothing.
func TestEmptyReaders(t *testing.T) {
	var zero, other stamp.Reader
	for _, r := range []*stamp.Reader{&zero, stamp.Read(nil), stamp.Read([]byte{})} {
		wantReader(t, r, 0, api.OK, api.OK)
		if n, s := r.Number(), r.Text(); n != 0 || s != "" {
			t.Errorf("%d, %q", n, s)
		}
		wantReader(t, r, 0, api.ErrShort, api.ErrShort)
	}
	if s := other.Text(); s != "" {
		t.Errorf("%q", s)
	}
	wantReader(t, &other, 0, api.ErrShort, api.ErrShort)
	var none *stamp.Reader
	for range 2 {
		wantReader(t, none, 0, api.ErrArg, api.ErrArg)
		if n, s := none.Number(), none.Text(); n != 0 || s != "" {
			t.Errorf("%d, %q", n, s)
		}
	}
}

// someThing is a number or a text by chance.
func someThing(chance *rand.Rand) thing {
	if chance.Intn(2) == 0 {
		b := make([]byte, chance.Intn(4)*chance.Intn(60))
		chance.Read(b)
		return text(string(b))
	}
	return num(chance.Int() >> chance.Intn(64))
}

// TestThereAndBack: P6.9: numbers and texts in any order; nothing is left.
func TestThereAndBack(t *testing.T) {
	chance := rand.New(rand.NewSource(6))
	for range 5000 {
		var things []thing
		for range chance.Intn(9) {
			things = append(things, someThing(chance))
		}
		w := laid(things...)
		data, err := wantLaid(things)
		wantWriter(t, w, data, err)
		r := stamp.Read(w.Data())
		for i, x := range things {
			if got := take(r, x.isText); got != x {
				t.Fatalf("thing %d of %v: %v", i, things, got)
			}
		}
		wantReader(t, r, 0, api.OK, api.OK)
		if len(things) > 0 {
			things[chance.Intn(len(things))] = num(-1 - chance.Int())
		}
		wantWriting(t, things)
	}
}

// TestAnyBytes: P6.6, P6.9, W1: rows of bytes by chance, and what was laid, with a byte altered or cut off.
func TestAnyBytes(t *testing.T) {
	chance := rand.New(rand.NewSource(60))
	for range 20000 {
		b := make([]byte, chance.Intn(30))
		chance.Read(b)
		if chance.Intn(2) == 0 {
			b = laid(someThing(chance), someThing(chance), someThing(chance)).Data()
			if chance.Intn(2) == 0 {
				b[chance.Intn(len(b))] = byte(chance.Intn(256))
			}
			b = b[:len(b)-chance.Intn(2)]
		}
		asked := make([]bool, 12)
		for i := range asked {
			asked[i] = chance.Intn(2) == 0
		}
		wantReading(t, string(b), asked)
		if t.Failed() {
			return
		}
	}
}

// TestBytesStay: P6.10, W6: bytes are copied on the way in and on the way out.
func TestBytesStay(t *testing.T) {
	room := []byte("\x02ab\x05\x07\x08")
	was := bytes.Clone(room)
	r := stamp.Read(room[:4])
	room[1] = 'z'
	if s := r.Text(); s != "ab" {
		t.Errorf("Read keeps its bytes: %q", s)
	}
	room[1], room[3] = 'a', 9
	if n := r.Number(); n != 5 {
		t.Errorf("Read keeps its bytes: %d", n)
	}
	room[3] = 5
	if !slices.Equal(room, was) || r.End() != api.OK {
		t.Errorf("the bytes are changed: % x", room)
	}

	w := laid(text("ab"), num(5))
	first, second := w.Data(), w.Data()
	spoil(first)
	wantWriter(t, w, "\x02ab\x05", api.OK)
	if string(second) != "\x02ab\x05" {
		t.Errorf("two answers share their memory: % x", second)
	}
	// What is laid later shows in no answer, nor does what is done with an answer show in what is laid later.
	third := append(w.Data(), 0xee)
	w.Number(6)
	if third[4] != 0xee || string(second) != "\x02ab\x05" {
		t.Errorf("% x, % x", second, third)
	}
	spoil(third)
	wantWriter(t, w, "\x02ab\x05\x06", api.OK)
	w.Number(-1)
	spoil(w.Data())
	wantWriter(t, w, "\x02ab\x05\x06", api.ErrArg)
}

// spoil overwrites a list and its spare room.
func spoil(b []byte) {
	for i := range b[:cap(b)] {
		b[:cap(b)][i] = 0xdd
	}
}
