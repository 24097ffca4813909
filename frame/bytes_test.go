package frame_test

import (
	"bytes"
	"encoding/binary"
	"math"
	"math/rand"
	"slices"
	"strings"
	"testing"

	"hearsay/api"
	"hearsay/frame"
)

// exampleBytes is what the chapter's examples say of the frame there, exampleBody its body.
const (
	exampleBytes = "\x0b\x00\x00\x00" + exampleBody + "\x07\x39\xcf\xe8"
	exampleBody  = "\x01\x01\x02\x03\x04\x05\x01\x01\x01\x07\x00"
)

// edgy is frames that Check takes, at their limits.
func edgy() []api.Frame {
	most := api.Vector{}
	for n := 1; n <= api.MaxSites; n++ {
		most = append(most, dot(n, api.MaxSeq))
	}
	long := api.Op{Kind: api.OpInsert, Dot: dot(2, 1), ID: id(1, 2), Text: strings.Repeat("𝄞", api.MaxText)}
	gone := api.Op{Kind: api.OpDelete, Dot: dot(16, api.MaxSeq), Deps: most[:15:15], Gone: []api.Run{run(1, 1, api.MaxTime), run(1, 16, api.MaxTime)}}
	gone.Deps = append(gone.Deps, dot(16, api.MaxSeq-1))
	return append(frames(),
		api.Frame{Kind: api.FrameOps, From: 16, To: 1, Num: api.MaxNum, Got: api.MaxNum, Credit: api.MaxHold, Answer: true, Have: most, Ops: several(api.MaxPush, leave())},
		api.Frame{Kind: api.FrameOps, From: 15, To: 16, Ops: []api.Op{long, gone, leave(), long}},
		api.Frame{Kind: api.FrameOps, From: 2, To: 1, Num: 127, Got: 128, Credit: 127, Ops: several(128, leave())},
		api.Frame{Kind: api.FrameImage, From: 16, To: 15, Num: api.MaxNum, Credit: api.MaxHold, Have: most, Image: api.Image{Vector: slices.Clone(most), Base: slices.Clone(most), Clock: api.MaxTime}},
	)
}

// wantEncoded holds Encode of a frame against what it must be.
func wantEncoded(t *testing.T, f api.Frame) {
	t.Helper()
	var want []byte
	wantE := wantCheck(f)
	if wantE == api.OK {
		want = wantBytes(f)
	}
	if got, err := frame.Encode(f); !bytes.Equal(got, want) || err != wantE {
		t.Errorf("Encode(%+v): % x, %d; want % x, %d", f, got, int(err), want, int(wantE))
	}
}

// wantDecoded holds Decode of some bytes against what it must be; what is taken is what Encode says of it.
func wantDecoded(t *testing.T, b []byte) {
	t.Helper()
	got, err := frame.Decode(b)
	want, wantE := wantDecode(b)
	if !same(got, want) || err != wantE {
		t.Errorf("Decode(% x): %+v, %d; want %+v, %d", b, got, int(err), want, int(wantE))
	}
	if err != api.OK {
		return
	}
	if again, err := frame.Encode(got); !bytes.Equal(again, b) || err != api.OK {
		t.Errorf("Decode(% x): encoded again % x, %d", b, again, int(err))
	}
}

// wantRefused holds Decode of some bytes against an error that is written out.
func wantRefused(t *testing.T, b []byte, want api.Errno) {
	t.Helper()
	wantDecoded(t, b)
	if got, err := frame.Decode(b); !same(got, api.Frame{}) || err != want {
		t.Errorf("Decode(% x): %+v, %d; want %d", b, got, int(err), int(want))
	}
}

// wantBack takes a frame there and back.
func wantBack(t *testing.T, f api.Frame) {
	t.Helper()
	b, err := frame.Encode(f)
	got, back := frame.Decode(b)
	if err != api.OK || back != api.OK || !same(got, f) {
		t.Errorf("%+v: there %d, back %+v, %d", f, int(err), got, int(back))
	}
}

// TestExamplesOfBytes: the rows of the chapter's examples about bytes.
func TestExamplesOfBytes(t *testing.T) {
	if b, err := frame.Encode(example()); string(b) != exampleBytes || err != api.OK {
		t.Errorf("Encode: % x, %d", b, int(err))
	}
	if f, err := frame.Decode([]byte(exampleBytes)); !same(f, example()) || err != api.OK {
		t.Errorf("Decode: %+v, %d", f, int(err))
	}
	wantRefused(t, []byte(exampleBytes[:7]), api.ErrShort)
	wantRefused(t, []byte(exampleBytes[:18]), api.ErrLong)
	wantRefused(t, []byte(exampleBytes+"\x00"), api.ErrLong)
	wantRefused(t, []byte(exampleBytes[:7]+"\x04"+exampleBytes[8:]), api.ErrSum)
	nothing := binary.LittleEndian.AppendUint32(make([]byte, 4), frame.Sum(make([]byte, 4)))
	wantRefused(t, nothing, api.ErrShort)
	wantRefused(t, closed([]byte{9}), api.ErrForm)
}

// TestEncodeBytes: P10.3: byte for byte, written out: each number in its place, operations of each kind, an image; the length and the sum too.
func TestEncodeBytes(t *testing.T) {
	for _, x := range []struct {
		f                 api.Frame
		length, body, sum string
	}{
		{example(), exampleBytes[:4], exampleBody, exampleBytes[15:]},
		{plain(api.FrameOps), "\x09\x00\x00\x00", "\x01\x01\x02\x00\x00\x00\x00\x00\x00", ""},
		{plain(api.FrameImage), "\x10\x00\x00\x00", "\x02\x01\x02\x00\x00\x00\x00\x00" + "\x00\x00\x00\x00\x00\x00\x00\x00", ""},
		{busy(), "\x42\x00\x00\x00", "\x01\x10\x02\xac\x02\x00\xc8\x01\x00" + "\x03\x01\x04\x02\xac\x02\x10\x08" + "\x04" +
			"\x01\x02\x02\x02\x01\x04\x02\x01\x09\x03\x01\x06é𝄞" +
			"\x03\x01\x05\x01\x01\x04\x03" +
			"\x02\x03\x01\x02\x01\x05\x02\x02\x02\x02\x01\x01\x09\x02\x02" +
			"\x04\x10\x08\x02\x02\x02\x10\x07", ""},
		{brief(), "\x35\x00\x00\x00", "\x02\x01\x02\x01\x00\x80\x02\x00" + "\x01\x01\x02" +
			"\x01\x01\x02" + "\x00" + "\x02" + "\x02" + "\x03\x01\x01\x00\x01" + "\x01\x01\x02\x01\x01\x01\x01\x00\x00\x03h\xc3\xa9" +
			"\x02" + "\x01\x01\x00\x00\x68\x01" + "\x02\x01\x01\x01\xe9\x01\x01" + "\x01\x01" + "\x00" + "\x01", ""},
	} {
		sum := x.sum
		if sum == "" {
			n := wantSum([]byte(x.length + x.body))
			sum = string([]byte{byte(n), byte(n >> 8), byte(n >> 16), byte(n >> 24)})
		}
		if b, err := frame.Encode(x.f); string(b) != x.length+x.body+sum || err != api.OK {
			t.Errorf("Encode(%+v): % x, %d; want % x", x.f, b, int(err), x.length+x.body+sum)
		}
		wantEncoded(t, x.f)
	}
}

// TestLengths: P10.3 to P10.5: bodies whose lengths have one, two and three bytes.
func TestLengths(t *testing.T) {
	text := func(n int) api.Op {
		return api.Op{Kind: api.OpInsert, Dot: dot(1, 1), ID: id(1, 1), Text: strings.Repeat("a", n)}
	}
	for length, x := range map[int]struct{ count, last int }{
		254: {0, 236}, 255: {0, 237}, 256: {0, 238}, 257: {0, 239}, 65534: {63, 437}, 65535: {63, 438}, 65536: {63, 439}, 65537: {63, 440}, 264458: {255, 1024},
	} {
		f := plain(api.FrameOps)
		f.Ops = append(several(x.count, text(1024)), text(x.last))
		wantEncoded(t, f)
		wantBack(t, f)
		if b, _ := frame.Encode(f); len(b) != 8+length || string(b[:4]) != string([]byte{byte(length), byte(length >> 8), byte(length >> 16), 0}) {
			t.Errorf("%d bytes, the length is % x; want %d", len(b), b[:4], length)
		}
	}
}

// TestEncodeRefused: P10.3, W3: of a frame that Check does not take Check's error, and no byte.
func TestEncodeRefused(t *testing.T) {
	for _, f := range []api.Frame{busy(), brief(), full()} {
		for _, x := range faults(f.Kind) {
			one := turned(f, x.do)
			wantEncoded(t, one)
			if b, err := frame.Encode(one); len(b) != 0 || err != x.want {
				t.Errorf("Encode(%+v): % x, %d; want %d", one, b, int(err), int(x.want))
			}
		}
		for i := range numbersOf(&f) {
			for _, n := range edges {
				one := clone(f)
				numbersOf(&one)[i](n)
				wantEncoded(t, one)
			}
		}
	}
	wantEncoded(t, api.Frame{})
}

// TestThereAndBack: P10.3 to P10.5: at all limits, and of many frames; with some number turned, of what Check refuses.
func TestThereAndBack(t *testing.T) {
	for _, f := range edgy() {
		wantTurned(t, f, api.OK, asItIs)
		wantEncoded(t, f)
		wantBack(t, f)
	}
	r := rand.New(rand.NewSource(103))
	for range 5000 {
		f := right(r)
		wantEncoded(t, f)
		wantBack(t, f)
		l := numbersOf(&f)
		l[r.Intn(len(l))](edges[r.Intn(len(edges))])
		wantEncoded(t, f)
	}
}

// TestCut: P10.4, P10.6: each beginning of what is right, and it with something behind.
func TestCut(t *testing.T) {
	for _, f := range edgy() {
		b := wantBytes(f)
		for n := 0; n < len(b); n += 1 + len(b)/400 {
			want := api.ErrLong
			if n < 8 {
				want = api.ErrShort
			}
			wantRefused(t, b[:n], want)
		}
		wantRefused(t, b[:len(b)-1], api.ErrLong)
		for _, behind := range []string{"\x00", "\xff", "\x00\x00\x00\x00", string(b[len(b)-4:]), string(b)} {
			wantRefused(t, append(slices.Clone(b), behind...), api.ErrLong)
		}
	}
	for n := range 8 {
		wantRefused(t, make([]byte, n), api.ErrShort)
		wantRefused(t, bytes.Repeat([]byte{0xff}, n), api.ErrShort)
	}
	wantRefused(t, nil, api.ErrShort)
	// Nothing between, with a sum that is another.
	wantRefused(t, make([]byte, 8), api.ErrSum)
	wantRefused(t, []byte("\x01\x00\x00\x00\x00\x00\x00\x00"), api.ErrLong)
}

// TestWrongLengths: P10.4: lengths that say more or less, though the sum is right; and ahead of a sum that is another.
func TestWrongLengths(t *testing.T) {
	for _, body := range [][]byte{nil, {9}, []byte(exampleBody), make([]byte, 300)} {
		n := uint32(len(body))
		for _, length := range []uint32{n + 1, n - 1, n + 4, n + 8, n - 8, n - 4, n + 256, n + 1<<16, n + 1<<24, n + 1<<31, n << 24, math.MaxUint32, ^n} {
			if length == n {
				continue
			}
			b := sealed(length, body)
			wantRefused(t, b, api.ErrLong)
			b[len(b)-1]++
			wantRefused(t, b, api.ErrLong)
		}
	}
	// The length the other way round.
	b := append([]byte{0, 0, 0, 11}, exampleBody...)
	wantRefused(t, binary.LittleEndian.AppendUint32(b, wantSum(b)), api.ErrLong)
}

// TestWrongSums: P10.4: sums that are others: each digit turned, the other way round, of the body alone, of all but the length, of nothing; ahead of all that the body could offend by.
func TestWrongSums(t *testing.T) {
	for _, body := range [][]byte{nil, {9}, []byte(exampleBody), []byte(exampleBody + "\x00")} {
		b := closed(body)
		head, sum := b[:len(b)-4], binary.LittleEndian.Uint32(b[len(b)-4:])
		with := func(sum uint32) {
			t.Helper()
			wantRefused(t, binary.LittleEndian.AppendUint32(slices.Clone(head), sum), api.ErrSum)
		}
		for i := range 32 {
			with(sum ^ 1<<i)
		}
		for _, n := range []uint32{sum + 1, sum - 1, ^sum, 0, wantSum(body), ^uint32(0), wantSum(b)} {
			if n != sum {
				with(n)
			}
		}
		wantRefused(t, binary.BigEndian.AppendUint32(slices.Clone(head), sum), api.ErrSum)
	}
}

// TestDecodeOrder: P10.4: where a body is given up: at the first thing that offends, whatever comes behind it; bytes that are left ahead of Check.
func TestDecodeOrder(t *testing.T) {
	const none = -1 // what has no number's form: were it taken, the error would be ErrForm
	say := func(numbers []int) []byte {
		var b []byte
		for _, n := range numbers {
			if n == none {
				b = append(b, 0x80, 0)
				continue
			}
			b = append(b, row(n)...)
		}
		return closed(b)
	}
	for _, x := range []struct {
		numbers []int
		want    api.Errno
	}{
		// Nothing, and too little.
		{nil, api.ErrShort}, {[]int{1}, api.ErrShort}, {[]int{2}, api.ErrShort}, {[]int{1, 1, 2, 3, 4, 5}, api.ErrShort}, {[]int{1, 1, 2, 3, 4, 5, 1}, api.ErrShort}, {[]int{1, 1, 2, 3, 4, 5, 1, 1, 1}, api.ErrShort}, {[]int{1, 1, 2, 3, 4, 5, 1, 0}, api.ErrShort},
		// The Kind, at once.
		{[]int{0}, api.ErrForm}, {[]int{3}, api.ErrForm}, {[]int{256}, api.ErrForm}, {[]int{257}, api.ErrForm}, {[]int{1<<32 + 1}, api.ErrForm}, {[]int{1<<63 - 1}, api.ErrForm}, {[]int{none}, api.ErrForm}, {[]int{3, 1, 2, 0, 0, 0, 0, 0, 0}, api.ErrForm},
		// The Answer, ahead of what is cut off behind it, and of what Check has against the numbers ahead.
		{[]int{1, 1, 2, 3, 4, 5, 2}, api.ErrForm}, {[]int{2, 1, 2, 3, 4, 5, 3}, api.ErrForm}, {[]int{1, 17, 17, 1 << 40, 3, 999, 128}, api.ErrForm}, {[]int{1, 1, 2, 3, 4, 5, 1<<63 - 1}, api.ErrForm}, {[]int{1, 1, 2, 3, 4, 5, 1<<32 + 1}, api.ErrForm},
		// Have, as chapter 7 takes it.
		{[]int{1, 1, 2, 0, 0, 0, 0, 17}, api.ErrForm}, {[]int{1, 1, 2, 0, 0, 0, 0, 1, 0}, api.ErrForm}, {[]int{1, 1, 2, 0, 0, 0, 0, 1, 17}, api.ErrForm}, {[]int{1, 1, 2, 0, 0, 0, 0, 1, 1, 0}, api.ErrForm}, {[]int{1, 1, 2, 0, 0, 0, 0, 2, 2, 1, 1, 1, 0}, api.ErrForm}, {[]int{2, 1, 2, 0, 0, 0, 0, 1, 1, api.MaxSeq + 1}, api.ErrForm},
		// How many Ops, ahead of them and of what Check has against the numbers ahead.
		{[]int{1, 1, 2, 0, 0, 0, 0, 0, 257}, api.ErrLong}, {[]int{1, 1, 2, 0, 0, 0, 0, 0, 257, 9}, api.ErrLong}, {[]int{1, 1, 2, 0, 0, 0, 0, 0, 257, none}, api.ErrLong}, {[]int{1, 1, 1, 0, 0, 0, 0, 0, 1<<63 - 1}, api.ErrLong}, {[]int{1, 99, 2, 0, 0, 0, 0, 0, 1 << 32, 4, 1, 1, 0}, api.ErrLong},
		{[]int{1, 1, 2, 0, 0, 0, 0, 0, 256}, api.ErrShort}, {[]int{1, 1, 2, 0, 0, 0, 0, 0, 256, 9}, api.ErrOp}, {[]int{1, 1, 2, 0, 0, 0, 0, 0, 1}, api.ErrShort},
		// Ops, as chapter 8 takes them.
		{[]int{1, 1, 2, 0, 0, 0, 0, 0, 1, 5}, api.ErrOp}, {[]int{1, 1, 2, 0, 0, 0, 0, 0, 1, 0, none}, api.ErrOp}, {[]int{1, 1, 2, 0, 0, 0, 0, 0, 1, 4, 1, 2, 0, 0}, api.ErrOp}, {[]int{1, 1, 2, 0, 0, 0, 0, 0, 1, 3, 1, 1, 0, 17}, api.ErrOp}, {[]int{1, 1, 2, 0, 0, 0, 0, 0, 1, 4, 1, 1, 17}, api.ErrForm},
		{[]int{1, 1, 2, 0, 0, 0, 0, 0, 2, 4, 1, 1, 0, 5}, api.ErrOp}, {[]int{1, 1, 2, 0, 0, 0, 0, 0, 2, 5, 4, 1, 1, 0}, api.ErrOp}, {[]int{1, 1, 2, 0, 0, 0, 0, 0, 2, 4, 1, 1, 0}, api.ErrShort}, {[]int{1, 1, 1, 0, 0, 0, 0, 0, 1, 4, 0, 1, 0}, api.ErrOp},
		// Images, as chapter 9 takes them.
		{[]int{2, 1, 2, 0, 0, 0, 0, 0, 0, 0, 0, 0, 0, 0, 0}, api.ErrShort}, {[]int{2, 1, 2, 0, 0, 0, 0, 0, 17}, api.ErrForm}, {[]int{2, 1, 2, 0, 0, 0, 0, 0, 0, 0, 0, 9}, api.ErrForm}, {[]int{2, 1, 2, 0, 0, 0, 0, 0, 0, 0, 0, 1, 5}, api.ErrOp}, {[]int{2, 1, 2, 0, 0, 0, 0, 0, 1, 1, 1, 0, 0, 0, 0, 0, 0, 0}, api.ErrOrder},
		{[]int{2, 1, 2, 0, 0, 0, 0, 0, 0, 0, 0, 0, 0, 1, 0, 0, 1}, api.ErrArg}, {[]int{2, 1, 2, 0, 0, 0, 0, 0, 0, 0, 9, 0, 1, 2, 1, 1, 1, 97, 1, 0, 0, 0}, api.ErrNone}, {[]int{2, 1, 1, 0, 0, 0, 0, 0, 0, 0, 0, 0, 0, 0, 0, 1}, api.ErrForm}, {[]int{2, 1, 1, 0, 0, 0, 0, 1, 7, 7, 1, 1, 1, 0, 0, 0, 0, 0, 0, 0}, api.ErrOrder},
		// Bytes that are left, ahead of Check.
		{[]int{1, 1, 2, 0, 0, 0, 0, 0, 0, 0}, api.ErrForm}, {[]int{1, 1, 2, 0, 0, 0, 0, 0, 0, none}, api.ErrForm}, {[]int{1, 1, 1, 0, 0, 0, 0, 0, 0, 0}, api.ErrForm}, {[]int{1, 17, 1, 0, 0, 0, 0, 0, 0, 77}, api.ErrForm}, {[]int{1, 1, 2, 0, 0, 0, 0, 0, 0, 4, 1, 1, 0}, api.ErrForm},
		{[]int{2, 1, 2, 0, 0, 0, 0, 0, 0, 0, 0, 0, 0, 0, 0, 0, 0}, api.ErrForm}, {[]int{2, 1, 1, 0, 0, 0, 0, 0, 0, 0, 0, 0, 0, 0, 0, 0, 0}, api.ErrForm},
		// Then Check: of both kinds.
		{[]int{1, 1, 1, 0, 0, 0, 0, 0, 0}, api.ErrArg}, {[]int{1, 0, 1, 0, 0, 0, 0, 0, 0}, api.ErrArg}, {[]int{1, 17, 1, 0, 0, 0, 0, 0, 0}, api.ErrArg}, {[]int{1, 1, 0, 0, 0, 0, 0, 0, 0}, api.ErrArg}, {[]int{1, 1, 17, 0, 0, 0, 0, 0, 0}, api.ErrArg}, {[]int{1, 1, 2, api.MaxNum + 1, 0, 0, 0, 0, 0}, api.ErrArg},
		{[]int{1, 1, 2, 0, api.MaxNum + 1, 0, 0, 0, 0}, api.ErrArg}, {[]int{1, 1, 2, 0, 0, 257, 0, 0, 0}, api.ErrArg}, {[]int{1, 1 << 32, 2, 0, 0, 0, 0, 0, 0}, api.ErrArg}, {[]int{1, 1, 2, 1<<63 - 1, 0, 0, 0, 0, 0}, api.ErrArg}, {[]int{1, 2, 2, 0, 0, 0, 1, 0, 1, 4, 1, 1, 0}, api.ErrArg},
		{[]int{2, 1, 1, 0, 0, 0, 0, 0, 0, 0, 0, 0, 0, 0, 0, 0}, api.ErrArg}, {[]int{2, 1, 2, 0, 0, 257, 0, 1, 7, 7, 0, 0, 0, 0, 0, 0, 0, 0}, api.ErrArg}, {[]int{2, 1, 2, 0, 0, 0, 0, 1, 7, 7, 0, 0, 0, 0, 0, 0, 0, 0}, api.ErrForm}, {[]int{2, 1, 2, 0, 0, 0, 0, 0, 1, 7, 7, 1, 7, 7, 0, 0, 0, 0, 0, 0}, api.ErrForm},
		{[]int{2, 1, 2, 0, 0, 0, 0, 1, 7, 7, 1, 7, 8, 1, 7, 8, 0, 0, 0, 0, 0, 0}, api.ErrForm},
	} {
		b := say(x.numbers)
		wantRefused(t, b, x.want)
		// Without its sum nothing of it is told.
		b[len(b)-1] ^= 1
		wantRefused(t, b, api.ErrSum)
	}
}

// TestDecodeNumbers: P10.4: each number of what is right turned by itself, cut off behind it, and with a second one behind it turned too.
func TestDecodeNumbers(t *testing.T) {
	wrong := []int{0, 1, 2, 3, 16, 17, 256, 257, 0x110000, api.MaxNum, api.MaxNum + 1, math.MaxInt}
	for _, f := range frames() {
		p := wantPieces(f)
		for i := range p {
			for _, n := range wrong {
				one := slices.Clone(p)
				one[i] = row(n)
				wantDecoded(t, closed(slices.Concat(one...)))
				wantDecoded(t, closed(slices.Concat(one[:i+1]...)))
				wantDecoded(t, closed(append(slices.Concat(one...), 0)))
				for k := i + 1; k < len(p); k += 1 + len(p)/20 {
					for _, n := range []int{0, 17, 257, math.MaxInt} {
						two := slices.Clone(one)
						two[k] = row(n)
						wantDecoded(t, closed(slices.Concat(two...)))
					}
				}
			}
		}
	}
}

// TestDecodeForms: P10.4: the Reader's errors at each number of the head: what is no number's form, and what is too short.
func TestDecodeForms(t *testing.T) {
	for _, f := range frames() {
		p := wantPieces(f)
		for i := range p {
			ahead, behind := slices.Concat(p[:i]...), slices.Concat(p[i+1:]...)
			for _, bad := range []string{"\x80\x00", "\xff\xff\xff\xff\xff\xff\xff\xff\xff\x01", "\x81\x80\x00"} {
				b := closed(slices.Concat(ahead, []byte(bad), behind))
				wantDecoded(t, b)
				if i < 8 {
					wantRefused(t, b, api.ErrForm)
				}
			}
			for _, bad := range []string{"", "\x85", "\xff\xff\xff"} {
				b := closed(append(slices.Clone(ahead), bad...))
				wantDecoded(t, b)
				if i < 8 {
					wantRefused(t, b, api.ErrShort)
				}
			}
		}
	}
}

// TestDecodeCounts: P10.4: Kinds, Answers and numbers of Ops about their limits, with as many Ops behind as are told.
func TestDecodeCounts(t *testing.T) {
	op := row(4, 1, 1, 0)
	for _, x := range []struct {
		count int
		want  api.Errno
	}{{0, api.OK}, {1, api.OK}, {127, api.OK}, {128, api.OK}, {255, api.OK}, {256, api.OK}, {257, api.ErrLong}, {258, api.ErrLong}, {512, api.ErrLong}} {
		b := closed(slices.Concat(row(1, 1, 2, 0, 0, 0, 0, 0, x.count), bytes.Repeat(op, x.count)))
		wantDecoded(t, b)
		f, err := frame.Decode(b)
		if err != x.want || err == api.OK && (len(f.Ops) != x.count || !same(f, turned(plain(api.FrameOps), func(f *api.Frame) { f.Ops = several(x.count, leave()) }))) {
			t.Errorf("%d Ops: %+v, %d; want %d", x.count, f, int(err), int(x.want))
		}
		if x.count == 0 || x.want != api.OK {
			continue
		}
		wantRefused(t, closed(slices.Concat(row(1, 1, 2, 0, 0, 0, 0, 0, x.count), bytes.Repeat(op, x.count-1))), api.ErrShort)
		wantRefused(t, closed(slices.Concat(row(1, 1, 2, 0, 0, 0, 0, 0, x.count-1), bytes.Repeat(op, x.count))), api.ErrForm)
	}
	for answer := range 300 {
		b := closed(row(1, 1, 2, 0, 0, 0, answer, 0, 0))
		if answer > 1 {
			wantRefused(t, b, api.ErrForm)
		} else if f, err := frame.Decode(b); err != api.OK || f.Answer != (answer == 1) {
			t.Errorf("Answer %d: %+v, %d", answer, f, int(err))
		}
	}
	for kind := range 300 {
		if b := row(kind, 1, 2, 0, 0, 0, 0, 0, 0); kind == api.FrameOps || kind == api.FrameImage {
			wantDecoded(t, closed(b))
		} else {
			wantRefused(t, closed(b), api.ErrForm)
			wantRefused(t, closed(row(kind)), api.ErrForm)
		}
	}
}

// TestDecodeRows: P10.4, P10.5, W1: all short bodies of bytes about the limits, behind nothing and behind what leads to each part.
func TestDecodeRows(t *testing.T) {
	for _, x := range []struct {
		head   string
		pieces []byte
		most   int
	}{
		{"", []byte{0, 1, 2}, 9},
		{"", []byte{0, 1, 2, 3, 17, 0x80}, 5},
		{"\x01\x01\x02\x00\x00", []byte{0, 1, 2, 17}, 6},
		{"\x01\x01\x02\x00\x00\x00\x00\x00", []byte{0, 1, 4, 5, 0x80}, 6},
		{"\x02\x01\x02\x00\x00\x00\x00\x00", []byte{0, 1, 2}, 9},
		{"\x02\x01\x02\x00\x00\x00\x00\x01\x01\x01\x01\x01\x01", []byte{0, 1, 2}, 8},
	} {
		rows := [][]byte{nil}
		for at := 0; at < len(rows); at++ {
			wantDecoded(t, closed(append([]byte(x.head), rows[at]...)))
			if len(rows[at]) == x.most || t.Failed() {
				continue
			}
			for _, p := range x.pieces {
				rows = append(rows, append(slices.Clone(rows[at]), p))
			}
		}
	}
}

// TestDecodeBytes: P10.4, P10.5, W1: wild rows of bytes, with and without a right length and sum; and bodies that are right with some bytes turned, left out or put between.
func TestDecodeBytes(t *testing.T) {
	r := rand.New(rand.NewSource(104))
	for range 20000 {
		b := make([]byte, r.Intn(40))
		for i := range b {
			b[i] = byte(r.Intn(4))
			if r.Intn(8) == 0 {
				b[i] = byte(r.Intn(256))
			}
		}
		wantDecoded(t, b)
		wantDecoded(t, closed(b))
		if len(b) > 0 {
			b[0] = byte(1 + r.Intn(2))
			wantDecoded(t, closed(b))
		}
	}
	for range 20000 {
		b := slices.Concat(wantPieces(right(r))...)
		for range 1 + r.Intn(2) {
			i := r.Intn(len(b))
			switch r.Intn(4) {
			case 0:
				b = slices.Delete(b, i, i+1)
			case 1:
				b = slices.Insert(b, i, byte(r.Intn(256)))
			default:
				b[i] = byte(r.Intn(256))
			}
		}
		wantDecoded(t, closed(b))
	}
}

// wantFound holds Decode of bytes that were altered against the one error that tells: the length's, if it is another, else the sum's.
func wantFound(t *testing.T, b, altered []byte) {
	t.Helper()
	want := api.ErrSum
	if !bytes.Equal(b[:4], altered[:4]) {
		want = api.ErrLong
	}
	if f, err := frame.Decode(altered); err != want || !same(f, api.Frame{}) {
		t.Fatalf("% x altered to % x: %+v, %d; want %d", b, altered, f, int(err), int(want))
	}
}

// TestAltered: P10.6: one to four bytes in a row turned to others, at every place: each byte to each other one, each two with few digits, and three and four in many ways.
func TestAltered(t *testing.T) {
	r := rand.New(rand.NewSource(106))
	for _, f := range frames() {
		b := wantBytes(f)
		for at := range b {
			for by := 1; by < 256; by++ {
				one := slices.Clone(b)
				one[at] ^= byte(by)
				wantFound(t, b, one)
			}
			width := min(4, len(b)-at)
			// Each two digits of the four bytes, and each stretch of them.
			for i := range 8 * width {
				for k := range i {
					two, stretch := slices.Clone(b), slices.Clone(b)
					for d := k; d <= i; d++ {
						stretch[at+d/8] ^= 1 << (d % 8)
					}
					two[at+i/8] ^= 1 << (i % 8)
					two[at+k/8] ^= 1 << (k % 8)
					wantFound(t, b, two)
					wantFound(t, b, stretch)
				}
			}
			for range 500 {
				many := slices.Clone(b)
				n := 1 + r.Intn(width)
				r.Read(many[at : at+n])
				if !bytes.Equal(many, b) {
					wantFound(t, b, many)
				}
			}
		}
	}
}

// TestAlteredWords: P10.6: the last bytes of the body together with the first of the sum, in all ways of few digits: no sum tells of another body, so near to it.
func TestAlteredWords(t *testing.T) {
	b := []byte(exampleBytes)
	for first := 11; first <= 15; first++ {
		for x := range 1 << 12 {
			one := slices.Clone(b)
			one[first] ^= byte(x)
			one[first+1] ^= byte(x >> 8)
			one[first+2] ^= byte(x >> 5)
			one[first+3] ^= byte(x >> 3)
			if !bytes.Equal(one, b) {
				wantFound(t, b, one)
			}
		}
	}
}

func room[L ~[]T, T any](l L, x T) L {
	return append(slices.Clone(l), x, x)[:len(l)]
}

func paddedOps(ops []api.Op) []api.Op {
	ops = cloneOps(ops)
	for i := range ops {
		o := &ops[i]
		o.Deps, o.Gone = room(o.Deps, dot(7, 7)), room(o.Gone, run(7, 7, 7))
	}
	return room(ops, api.Op{Kind: 7})
}

// padded is the same frame with lists that have spare room, with something in it.
func padded(f api.Frame) api.Frame {
	f.Have, f.Ops = room(f.Have, dot(7, 7)), paddedOps(f.Ops)
	m := &f.Image
	m.Vector, m.Base, m.Nodes = room(m.Vector, dot(7, 7)), room(m.Base, dot(7, 7)), room(m.Nodes, node(id(7, 7), id(6, 6), 'q', 1))
	m.Log, m.Joined, m.Left = paddedOps(m.Log), room(m.Joined, 7), room(m.Left, 7)
	return f
}

func wholeOps(ops []api.Op) []api.Op {
	ops = slices.Clone(ops[:cap(ops)])
	for i := range ops {
		o := &ops[i]
		o.Deps, o.Gone = o.Deps[:cap(o.Deps)], o.Gone[:cap(o.Gone)]
	}
	return ops
}

// whole is the same frame with its lists drawn out over all their spare room.
func whole(f api.Frame) api.Frame {
	f.Have, f.Ops = f.Have[:cap(f.Have)], wholeOps(f.Ops)
	m := &f.Image
	m.Log, m.Vector, m.Base, m.Nodes, m.Joined, m.Left = wholeOps(m.Log), m.Vector[:cap(m.Vector)], m.Base[:cap(m.Base)], m.Nodes[:cap(m.Nodes)], m.Joined[:cap(m.Joined)], m.Left[:cap(m.Left)]
	return f
}

func spoil[L ~[]T, T any](l L, x T) func() {
	return func() {
		for i := range l[:cap(l)] {
			l[:cap(l)][i] = x
		}
	}
}

// spoils is how each list of a frame by itself is turned, with its spare room; the lists within operations ahead of those of the operations.
func spoils(f api.Frame) []func() {
	var l []func()
	for _, o := range slices.Concat(f.Ops, f.Image.Log) {
		l = append(l, spoil(o.Deps, dot(-5, -5)), spoil(o.Gone, run(-5, -5, -5)))
	}
	m := f.Image
	return append(l, spoil(f.Have, dot(-5, -5)), spoil(f.Ops, api.Op{Kind: -5}), spoil(m.Vector, dot(-5, -5)), spoil(m.Base, dot(-5, -5)), spoil(m.Nodes, node(id(-5, -5), id(-5, -5), -5, -5)),
		spoil(m.Joined, -5), spoil(m.Left, -5), spoil(m.Log, api.Op{Kind: -5}))
}

// TestHandedIn: P10.7, W6: each call leaves the frame as it is, the spare room of its lists too, and keeps nothing of it; the bytes are new each time, with their spare room.
func TestHandedIn(t *testing.T) {
	all := edgy()
	for _, f := range []api.Frame{busy(), brief(), full()} {
		for _, x := range faults(f.Kind) {
			all = append(all, turned(f, x.do))
		}
	}
	for _, f := range all {
		given, fresh := padded(f), padded(f)
		one, err := frame.Encode(given)
		two, _ := frame.Encode(given)
		frame.Check(given)
		if !same(whole(given), whole(fresh)) || !same(given, f) {
			t.Errorf("%+v is changed: %+v", f, given)
		}
		for _, do := range spoils(given) {
			do()
		}
		spoil(one, 0xee)()
		if want := wantCheck(f); err != want || want == api.OK && !bytes.Equal(two, wantBytes(f)) {
			t.Errorf("%+v: what was answered is changed: % x, %d", f, two, int(err))
		}
	}
}

// TestAnswered: P10.7, W6: Decode leaves its bytes as they are, their spare room too; what it answers is new each time, the lists within each operation and within the image too, and no two of its lists share anything.
func TestAnswered(t *testing.T) {
	// Lists of many lengths, as each leaves other room behind its end.
	all, chance := edgy(), rand.New(rand.NewSource(107))
	for range 300 {
		all = append(all, right(chance))
	}
	for _, f := range all {
		b := wantBytes(f)
		given := room(b, 0x77)
		one, err := frame.Decode(given)
		other, _ := frame.Decode(given)
		if err != api.OK || !bytes.Equal(given[:cap(given)], room(b, 0x77)[:cap(given)]) || !bytes.Equal(given, b) {
			t.Errorf("%+v: Decode changed its bytes, %d", f, int(err))
		}
		spoil(given, 0xff)()
		if !same(one, f) {
			t.Errorf("%+v: what was answered is changed: %+v", f, one)
		}
		for _, do := range spoils(one) {
			do()
		}
		if !same(other, f) {
			t.Errorf("%+v: another answer is changed: %+v", f, other)
		}
		// Each list is turned by itself; all others are what they were.
		for i := range min(len(spoils(one)), 60) {
			got, _ := frame.Decode(b)
			want := clone(f)
			spoils(got)[i]()
			spoils(want)[i]()
			if !same(got, want) {
				t.Errorf("%+v: list %d turned: %+v", f, i, got)
			}
		}
	}
}

// TestDecodeLong: P10.4, P10.5, W1: a great image there and back, and numbers that promise more than there is.
func TestDecodeLong(t *testing.T) {
	const n = 20000
	f := plain(api.FrameImage)
	f.Have, f.Image = vec(3, n), api.Image{Clock: n, Vector: vec(3, n)}
	for i := range n {
		f.Image.Nodes = append(f.Image.Nodes, node(id(n-i, 1), beginning, rune(i), 1))
		f.Image.Log = append(f.Image.Log, api.Op{Kind: api.OpLeave, Dot: dot(3, i+1)})
		if i > 0 {
			f.Image.Log[i].Deps = vec(3, i)
		}
	}
	wantBack(t, f)
	wantEncoded(t, f)
	wantRefused(t, closed(slices.Concat(row(2, 1, 2, 0, 0, 0, 0, 0, 0, 0, 0, 0, 1<<20), make([]byte, 1<<20))), api.ErrShort)
	wantRefused(t, closed(slices.Concat(row(1, 1, 2, 0, 0, 0, 0, 0, 0), make([]byte, 1<<20))), api.ErrForm)
	wantRefused(t, make([]byte, 1<<20), api.ErrLong)
}
