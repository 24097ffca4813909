package replica

import (
	"hearsay/api"
	"hearsay/op"
)

// effect is what an operation does where it is delivered; each kind has one of its own.
type effect interface{ isEffect() }

type (
	laying struct { // of an OpInsert
		id, ref api.ID
		text    string
	}
	taking struct{ gone []api.Run } // of an OpDelete
	coming struct{ site int }       // of an OpJoin
	going  struct{ site int }       // of an OpLeave
)

func (laying) isEffect() {}
func (taking) isEffect() {}
func (coming) isEffect() {}
func (going) isEffect()  {}

// effectOf is what an operation does.
func effectOf(o api.Op) effect {
	switch o.Kind {
	case api.OpInsert:
		return laying{o.ID, o.Ref, o.Text}
	case api.OpDelete:
		return taking{o.Gone}
	case api.OpJoin:
		return coming{o.Site}
	case api.OpLeave:
		return going{o.Dot.Site}
	}
	return nil
}

// deliver takes in an operation that nothing is missing for.
func (w *whole) deliver(o api.Op) {
	w.Add(o)
	w.clock = max(w.clock, op.Last(o))
	switch e := effectOf(o).(type) {
	case laying:
		// What the document refuses, as what nobody could have issued, is delivered all the same: others count on its dot.
		w.Insert(e.id, e.ref, e.text)
	case taking:
		w.Delete(e.gone)
	case coming:
		w.Join(e.site)
	case going:
		w.Leave(e.site)
		w.leaving = w.leaving || e.site == w.site
	}
}
