package op

import (
	"hearsay/api"
	"hearsay/glyph"
	"hearsay/stamp"
)

// kind is what an operation of one kind has beside its Dot and its Deps.
type kind interface {
	holds(site int) bool         // whether it is right, in an operation of that site
	last() int                   // the latest time in it, where it is right
	put(w *stamp.Writer)         // lays it
	take(t taker, site int) kind // another one of this kind, as it was laid in an operation of that site
	fill(o *api.Op)              // gives an operation all of it
}

// kindOf is what an operation has of its kind, nil where that is none of the four.
func kindOf(o api.Op) kind {
	switch o.Kind {
	case api.OpInsert:
		return insertion{o.ID, o.Ref, o.Text}
	case api.OpDelete:
		return deletion{o.Gone}
	case api.OpJoin:
		return joining{o.Site}
	case api.OpLeave:
		return leaving{}
	}
	return nil
}

// isRun tells whether so many identifiers, from this one on, are all ones.
func isRun(id api.ID, count int) bool {
	return stamp.Check([]api.Run{{ID: id, Count: count}}) == api.OK
}

// lastTime is that of the last identifier of a run.
func lastTime(id api.ID, count int) int { return id.Time + count - 1 }

type insertion struct {
	id, ref api.ID
	text    string
}

func (i insertion) holds(site int) bool {
	return i.textHolds() && i.id.Site == site && isRun(i.id, glyph.Count(i.text)) && i.refHolds()
}

func (i insertion) textHolds() bool {
	return i.text != "" && glyph.BadAt(i.text) < 0 && glyph.Count(i.text) <= api.MaxText
}

func (i insertion) refHolds() bool {
	beginning := api.ID{}
	return (i.ref == beginning || isRun(i.ref, 1)) && i.ref.Time < i.id.Time
}

func (i insertion) last() int { return lastTime(i.id, glyph.Count(i.text)) }

// put leaves out the Site of the identifier: it is that of the Dot.
func (i insertion) put(w *stamp.Writer) {
	w.Number(i.id.Time)
	w.Number(i.ref.Time)
	w.Number(i.ref.Site)
	w.Text(i.text)
}

func (insertion) take(t taker, site int) kind {
	i := insertion{id: api.ID{Site: site}}
	i.id.Time = t.number()
	i.ref.Time = t.number()
	i.ref.Site = t.number()
	i.text = t.text()
	return i
}

func (i insertion) fill(o *api.Op) { o.ID, o.Ref, o.Text = i.id, i.ref, i.text }

type deletion struct {
	gone []api.Run
}

func (d deletion) holds(int) bool {
	return 1 <= len(d.gone) && len(d.gone) <= api.MaxGone && stamp.Check(d.gone) == api.OK
}

// last looks at all runs: one that begins early may end late.
func (d deletion) last() int {
	latest := 0
	for _, r := range d.gone {
		latest = max(latest, lastTime(r.ID, r.Count))
	}
	return latest
}

func (d deletion) put(w *stamp.Writer) {
	w.Number(len(d.gone))
	for _, r := range d.gone {
		w.Number(r.ID.Time)
		w.Number(r.ID.Site)
		w.Number(r.Count)
	}
}

func (deletion) take(t taker, _ int) kind {
	count := t.number()
	if count > api.MaxGone {
		panic(giveUp(api.ErrOp))
	}
	var d deletion
	for range count {
		d.gone = append(d.gone, t.run())
	}
	return d
}

func (d deletion) fill(o *api.Op) { o.Gone = d.gone }

type joining struct {
	site int
}

func (j joining) holds(int) bool { return isSite(j.site) }

func (joining) last() int { return 0 }

func (j joining) put(w *stamp.Writer) { w.Number(j.site) }

func (joining) take(t taker, _ int) kind { return joining{t.number()} }

func (j joining) fill(o *api.Op) { o.Site = j.site }

type leaving struct{}

func (leaving) holds(int) bool { return true }

func (leaving) last() int { return 0 }

func (leaving) put(*stamp.Writer) {}

func (leaving) take(taker, int) kind { return leaving{} }

func (leaving) fill(*api.Op) {}
