package tree

import (
	"hearsay/api"
	"hearsay/glyph"
	"hearsay/stamp"
)

// checkInsert tells why a text can't be inserted by an identifier behind an element.
func (t *Tree) checkInsert(id, ref api.ID, text string) api.Errno {
	if !isID(id) || !isRef(ref) {
		return api.ErrArg
	}
	if text == "" || glyph.BadAt(text) >= 0 {
		return api.ErrText
	}
	count := len(glyph.Runes(text))
	switch {
	case id.Time+count-1 > api.MaxTime:
		return api.ErrArg
	case stamp.Compare(ref, id) >= 0:
		return api.ErrOrder
	case t.find(ref) == nil:
		return api.ErrNone
	case t.hasAny(id, count):
		return api.ErrExists
	}
	return api.OK
}

// hasAny tells whether one of so many identifiers, each a time later, is an element's.
func (t *Tree) hasAny(id api.ID, count int) bool {
	for range count {
		if t.elements[id] != nil {
			return true
		}
		id.Time++
	}
	return false
}

// checkNode tells why a node is none behind those that are there, wherever it may stand among them.
func (t *Tree) checkNode(n api.Node) api.Errno {
	switch {
	case !isID(n.ID) || !isRef(n.Ref):
		return api.ErrArg
	case !isRune(n.Rune) || n.State < api.StateShown || n.State > api.StateSettled:
		return api.ErrForm
	case stamp.Compare(n.Ref, n.ID) >= 0:
		return api.ErrOrder
	case t.elements[n.ID] != nil:
		return api.ErrExists
	case t.find(n.Ref) == nil:
		return api.ErrNone
	}
	return api.OK
}

// isID tells whether an identifier may be.
func isID(id api.ID) bool {
	return 1 <= id.Time && id.Time <= api.MaxTime && 1 <= id.Site && id.Site <= api.MaxSites
}

// isRef tells whether an element may stand behind what has this identifier.
func isRef(id api.ID) bool {
	return id == api.ID{} || isID(id)
}

// isRune tells whether a number is a rune: what is none is laid as api.Bad.
func isRune(r rune) bool {
	return r == api.Bad || glyph.Encode(r) != glyph.Encode(api.Bad)
}
