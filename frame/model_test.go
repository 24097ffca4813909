package frame_test

import (
	"encoding/binary"
	"hash/crc32"
	"slices"

	"hearsay/api"
	"hearsay/image"
	"hearsay/op"
	"hearsay/stamp"
	"hearsay/vector"
)

// What the chapter says, worked out a second time by other means: sums digit by digit, and by the library where there are many; the library's numbers as bytes. Vectors, operations and images by themselves are those of chapters 7 to 9.

// wantSum keeps each digit of the word by itself, the lowest first.
func wantSum(p []byte) uint32 {
	var digits [32]bool
	for i := range digits {
		digits[i] = true
	}
	for _, c := range p {
		for i := range 8 {
			digits[i] = digits[i] != (c>>i&1 == 1)
		}
		for range 8 {
			lowest := digits[0]
			copy(digits[:], digits[1:])
			digits[31] = false
			if lowest {
				for _, i := range []int{5, 8, 9, 15, 19, 20, 21, 23, 24, 26, 27, 29, 30, 31} {
					digits[i] = !digits[i]
				}
			}
		}
	}
	var sum uint32
	for i, one := range digits {
		if !one {
			sum += 1 << i
		}
	}
	return sum
}

func wantCheck(f api.Frame) api.Errno {
	between := func(least, n, most int) bool { return min(max(n, least), most) == n }
	if !between(1, f.Kind, 2) || !between(1, f.From, 16) || !between(1, f.To, 16) || f.From == f.To ||
		!between(0, f.Num, 1<<31-1) || !between(0, f.Got, 1<<31-1) || !between(0, f.Credit, 256) {
		return api.ErrArg
	}
	if err := vector.Check(f.Have); err != api.OK {
		return err
	}
	m := f.Image
	if f.Kind == api.FrameImage {
		switch err := image.Check(m); {
		case len(f.Ops) > 0:
			return api.ErrForm
		case err != api.OK:
			return err
		case !vector.Covers(f.Have, m.Vector) || !vector.Covers(m.Vector, f.Have):
			return api.ErrForm
		}
		return api.OK
	}
	if m.Clock != 0 || m.Epoch != 0 || len(m.Vector) != 0 || len(m.Base) != 0 || len(m.Log) != 0 || len(m.Nodes) != 0 || len(m.Joined) != 0 || len(m.Left) != 0 {
		return api.ErrForm
	}
	if len(f.Ops) > 256 {
		return api.ErrLong
	}
	if slices.ContainsFunc(f.Ops, func(o api.Op) bool { return op.Check(o) != api.OK }) {
		return api.ErrOp
	}
	return api.OK
}

// row is numbers as bytes.
func row(numbers ...int) []byte {
	var b []byte
	for _, n := range numbers {
		b = binary.AppendUvarint(b, uint64(n))
	}
	return b
}

// pieces is a body, thing by thing: each number by itself, each Text behind the number of its bytes.
type pieces [][]byte

func (p *pieces) numbers(numbers ...int) {
	for _, n := range numbers {
		*p = append(*p, row(n))
	}
}

func (p *pieces) dots(v api.Vector) {
	p.numbers(len(v))
	for _, d := range v {
		p.numbers(d.Site, d.Seq)
	}
}

func (p *pieces) ops(ops []api.Op) {
	p.numbers(len(ops))
	for _, o := range ops {
		p.op(o)
	}
}

func (p *pieces) op(o api.Op) {
	p.numbers(o.Kind, o.Dot.Site, o.Dot.Seq)
	p.dots(o.Deps)
	switch o.Kind {
	case api.OpInsert:
		p.numbers(o.ID.Time, o.Ref.Time, o.Ref.Site, len(o.Text))
		*p = append(*p, []byte(o.Text))
	case api.OpDelete:
		p.numbers(len(o.Gone))
		for _, r := range o.Gone {
			p.numbers(r.ID.Time, r.ID.Site, r.Count)
		}
	case api.OpJoin:
		p.numbers(o.Site)
	}
}

func (p *pieces) image(m api.Image) {
	p.dots(m.Vector)
	p.dots(m.Base)
	p.numbers(m.Clock)
	p.ops(m.Log)
	p.numbers(len(m.Nodes))
	for _, n := range m.Nodes {
		p.numbers(n.ID.Time, n.ID.Site, n.Ref.Time, n.Ref.Site, int(n.Rune), n.State)
	}
	for _, sites := range [][]int{m.Joined, m.Left} {
		p.numbers(len(sites))
		p.numbers(sites...)
	}
	p.numbers(m.Epoch)
}

// wantPieces is the body of a frame that Check takes.
func wantPieces(f api.Frame) pieces {
	var p pieces
	p.numbers(f.Kind, f.From, f.To, f.Num, f.Got, f.Credit)
	p.numbers(map[bool]int{true: 1}[f.Answer])
	p.dots(f.Have)
	if f.Kind == api.FrameOps {
		p.ops(f.Ops)
	} else {
		p.image(f.Image)
	}
	return p
}

// closed is a body with its length and its sum.
func closed(body []byte) []byte {
	return sealed(uint32(len(body)), body)
}

// sealed is a body with any length, and the right sum.
func sealed(length uint32, body []byte) []byte {
	b := append(binary.LittleEndian.AppendUint32(nil, length), body...)
	return binary.LittleEndian.AppendUint32(b, crc32.ChecksumIEEE(b))
}

func wantBytes(f api.Frame) []byte { return closed(slices.Concat(wantPieces(f)...)) }

// asking is a body that is being taken; once it has an error, nothing is taken any more.
type asking struct {
	left []byte
	err  api.Errno
}

func (a *asking) fail(err api.Errno) {
	if a.err == api.OK {
		a.err = err
	}
}

// number takes one, and has an error, if it is none of those from least to most.
func (a *asking) number(least, most int, err api.Errno) int {
	if a.err != api.OK {
		return 0
	}
	end := slices.IndexFunc(a.left[:min(len(a.left), 9)], func(c byte) bool { return c < 0x80 })
	switch {
	case end < 0 && len(a.left) < 9:
		a.fail(api.ErrShort)
		return 0
	case end < 0 || end > 0 && a.left[end] == 0:
		a.fail(api.ErrForm)
		return 0
	}
	v, width := binary.Uvarint(a.left[:end+1])
	a.left = a.left[width:]
	if int(v) < least || int(v) > most {
		a.fail(err)
	}
	return int(v)
}

// below takes a thing by what chapter 7, 8 or 9 says of it.
func below[T any](a *asking, take func(r *stamp.Reader) (T, api.Errno)) T {
	var none T
	if a.err != api.OK {
		return none
	}
	r := stamp.Read(a.left)
	x, err := take(r)
	a.left = a.left[len(a.left)-r.Left():]
	if a.fail(err); err != api.OK {
		return none
	}
	return x
}

func wantDecode(b []byte) (api.Frame, api.Errno) {
	if len(b) < 8 {
		return api.Frame{}, api.ErrShort
	}
	if uint64(binary.LittleEndian.Uint32(b)) != uint64(len(b)-8) {
		return api.Frame{}, api.ErrLong
	}
	if binary.LittleEndian.Uint32(b[len(b)-4:]) != crc32.ChecksumIEEE(b[:len(b)-4]) {
		return api.Frame{}, api.ErrSum
	}
	return wantTaken(b[4 : len(b)-4])
}

// wantTaken is what a body says.
func wantTaken(body []byte) (f api.Frame, err api.Errno) {
	a := &asking{left: body}
	f.Kind = a.number(1, 2, api.ErrForm)
	for _, n := range []*int{&f.From, &f.To, &f.Num, &f.Got, &f.Credit} {
		*n = a.number(0, 1<<63-1, api.OK)
	}
	f.Answer = a.number(0, 1, api.ErrForm) > 0
	f.Have = below(a, vector.Take)
	if f.Kind == api.FrameImage {
		f.Image = below(a, image.Take)
	} else {
		for count := a.number(0, 256, api.ErrLong); count > 0 && a.err == api.OK; count-- {
			f.Ops = append(f.Ops, below(a, op.Take))
		}
	}
	if len(a.left) > 0 {
		a.fail(api.ErrForm)
	}
	if a.fail(wantCheck(f)); a.err != api.OK {
		return api.Frame{}, a.err
	}
	return f, api.OK
}
