package op

import (
	"hearsay/api"
	"hearsay/stamp"
	"hearsay/vector"
)

// giveUp is the error with which a taker gives up: it panics, so that what is taken can be told thing by thing, without an error at each.
type giveUp api.Errno

// taker takes things of a Reader, or gives up.
type taker struct {
	r *stamp.Reader
}

// must gives up, if that is an error.
func must(err api.Errno) {
	if err != api.OK {
		panic(giveUp(err))
	}
}

func (t taker) number() int {
	n := t.r.Number()
	must(t.r.Err())
	return n
}

func (t taker) text() string {
	s := t.r.Text()
	must(t.r.Err())
	return s
}

func (t taker) vector() api.Vector {
	v, err := vector.Take(t.r)
	must(err)
	return v
}

func (t taker) run() api.Run {
	var r api.Run
	r.ID.Time = t.number()
	r.ID.Site = t.number()
	r.Count = t.number()
	return r
}

// op takes an operation whole.
func (t taker) op() api.Op {
	o := api.Op{Kind: t.number()}
	k := kindOf(o)
	if k == nil {
		panic(giveUp(api.ErrOp))
	}
	o.Dot.Site = t.number()
	o.Dot.Seq = t.number()
	o.Deps = t.vector()
	k.take(t, o.Dot.Site).fill(&o)
	must(Check(o))
	return o
}
