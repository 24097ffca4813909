package past

import (
	"hearsay/api"
	"hearsay/tree"
)

// document is a document that operations are done to, one behind the other.
type document struct {
	elements *tree.Tree
	// What is to go waits until an insert might lay some of it, as each Delete of a Tree looks at all elements.
	gone []api.Run
	last [api.MaxSites + 1]int // the latest time of each site that gone names
}

// whole is the whole document of a closed set.
func whole(ops []api.Op) *tree.Tree {
	d := document{elements: tree.New()}
	play(ops, d.do)
	d.erase()
	return d.elements
}

// do does an operation, if it went.
func (d *document) do(o api.Op, went bool) {
	if !went {
		return
	}
	switch o.Kind {
	case api.OpInsert:
		d.insert(o)
	case api.OpDelete:
		d.drop(o.Gone)
	}
}

// insert lays elements; what the document refuses is without effect.
func (d *document) insert(o api.Op) {
	// A delete ahead of it in the row does not touch what it lays.
	if o.ID.Time <= d.last[o.ID.Site] {
		d.erase()
	}
	d.elements.Insert(o.ID, o.Ref, o.Text)
}

// drop lets elements go as soon as need be.
func (d *document) drop(runs []api.Run) {
	d.gone = append(d.gone, runs...)
	for _, r := range runs {
		d.last[r.ID.Site] = max(d.last[r.ID.Site], r.ID.Time+(r.Count-1))
	}
}

// erase deletes what was to go.
func (d *document) erase() {
	d.elements.Delete(d.gone)
	d.gone, d.last = nil, [api.MaxSites + 1]int{}
}

// named is what some operations delete.
func named(ops []api.Op) []api.Run {
	var runs []api.Run
	for _, o := range ops {
		runs = append(runs, o.Gone...)
	}
	return runs
}
