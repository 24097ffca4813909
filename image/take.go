package image

import (
	"hearsay/api"
	"hearsay/op"
	"hearsay/stamp"
	"hearsay/vector"
)

// giveUp is the error with which a taker gives up: it panics, so that what is taken can be told thing by thing, without an error at each.
type giveUp api.Errno

// taker takes things of a Reader, or gives up.
type taker struct {
	r *stamp.Reader
}

// must gives up, if that is an error.
func must(err api.Errno) {
	if err != api.OK {
		panic(giveUp(err))
	}
}

func (t taker) number() int {
	n := t.r.Number()
	must(t.r.Err())
	return n
}

// numberTo is a number that may not be above most.
func (t taker) numberTo(most int) int {
	n := t.number()
	must(unless(n <= most, api.ErrForm))
	return n
}

// count is how many things follow that have a byte each at least.
func (t taker) count() int {
	n := t.number()
	must(unless(n <= t.r.Left(), api.ErrForm))
	return n
}

func (t taker) vector() api.Vector {
	v, err := vector.Take(t.r)
	must(err)
	return v
}

func (t taker) op() api.Op {
	o, err := op.Take(t.r)
	must(err)
	return o
}

func (t taker) id() api.ID {
	var id api.ID
	id.Time = t.number()
	id.Site = t.number()
	return id
}

func (t taker) node() api.Node {
	var n api.Node
	n.ID = t.id()
	n.Ref = t.id()
	n.Rune = rune(t.numberTo(lastRune))
	n.State = t.number()
	return n
}

// several takes so many things in one way. The list grows as they come: how many are told is no more than told.
func several[T any](count int, take func() T) []T {
	var l []T
	for range count {
		l = append(l, take())
	}
	return l
}

// image takes an image whole.
func (t taker) image() api.Image {
	var m api.Image
	m.Vector = t.vector()
	m.Base = t.vector()
	m.Clock = t.number()
	m.Log = several(t.count(), t.op)
	m.Nodes = several(t.count(), t.node)
	m.Joined = several(t.numberTo(api.MaxSites), t.number)
	m.Left = several(t.numberTo(api.MaxSites), t.number)
	m.Epoch = t.number()
	must(Check(m))
	return m
}
