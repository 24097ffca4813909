package frame

import (
	"hearsay/api"
	"hearsay/image"
	"hearsay/op"
	"hearsay/stamp"
	"hearsay/vector"
)

// giveUp is the error with which Decode gives up: it panics, so that what is taken can be told thing by thing, without an error at each.
type giveUp api.Errno

// must gives up, if that is an error.
func must(err api.Errno) {
	if err != api.OK {
		panic(giveUp(err))
	}
}

// opened is the body of a frame whose length and sum are right.
func opened(b []byte) []byte {
	must(unless(len(b) >= 2*wordSize, api.ErrShort))
	end := len(b) - wordSize
	body := b[wordSize:end]
	must(unless(int(wordOf(b[:wordSize])) == len(body), api.ErrLong))
	must(unless(wordOf(b[end:]) == Sum(b[:end]), api.ErrSum))
	return body
}

// taker takes things of a Reader, or gives up.
type taker struct {
	r *stamp.Reader
}

func (t taker) number() int {
	n := t.r.Number()
	must(t.r.Err())
	return n
}

func (t taker) kind() int {
	n := t.number()
	must(unless(isKind(n), api.ErrForm))
	return n
}

func (t taker) answer() bool {
	n := t.number()
	must(unless(n <= 1, api.ErrForm))
	return n == 1
}

func (t taker) have() api.Vector {
	v, err := vector.Take(t.r)
	must(err)
	return v
}

func (t taker) ops() []api.Op {
	count := t.number()
	must(unless(count <= api.MaxPush, api.ErrLong))
	var ops []api.Op
	for range count {
		o, err := op.Take(t.r)
		must(err)
		ops = append(ops, o)
	}
	return ops
}

func (t taker) image() api.Image {
	m, err := image.Take(t.r)
	must(err)
	return m
}

// frame takes a frame whole, and nothing may be left behind it.
func (t taker) frame() api.Frame {
	var f api.Frame
	f.Kind = t.kind()
	f.From = t.number()
	f.To = t.number()
	f.Num = t.number()
	f.Got = t.number()
	f.Credit = t.number()
	f.Answer = t.answer()
	f.Have = t.have()
	switch f.Kind {
	case api.FrameOps:
		f.Ops = t.ops()
	case api.FrameImage:
		f.Image = t.image()
	}
	must(t.r.End())
	must(Check(f))
	return f
}
