package net

import (
	"slices"

	"hearsay/api"
)

// maxPatch is how many bytes of a copy are altered at most.
const maxPatch = 4

// frame is what was sent. All its copies have it in common, and nobody writes to it.
type frame struct {
	from, to, step int
	clean          []octet
}

// octet is a byte of a frame. Being no plain byte, it can neither be answered nor be written over by mistake.
type octet struct{ value byte }

// parcel is a copy that is under way.
type parcel struct {
	*frame
	bad     bool
	spoiled []byte // the bytes of a copy that is bad; any other one has its frame's
}

// change is what may become of the bytes of a copy.
type change interface {
	fits(p *parcel) bool // whether the copy can take it, and becomes another one by it
}

// patch is bytes that come in the place of others.
type patch struct {
	at int
	by []byte
}

// length is how many bytes of a copy are left.
type length int

// fits tells whether the bytes fit in, and change something.
func (x patch) fits(p *parcel) bool {
	if len(x.by) < 1 || len(x.by) > maxPatch {
		return false
	}
	// Asked by a difference, as the sum may be more than an int can be.
	if x.at < 0 || x.at > p.size()-len(x.by) {
		return false
	}
	return x.changes(p)
}

// changes tells whether other bytes stand where the patch comes, which fits in.
func (x patch) changes(p *parcel) bool {
	changes := false
search:
	for i, b := range x.by {
		if p.byteAt(x.at+i) != b {
			changes = true
			break search
		}
	}
	return changes
}

// fits tells whether something is cut off.
func (l length) fits(p *parcel) bool { return l >= 0 && int(l) < p.size() }

// size is how many bytes the copy has.
func (p *parcel) size() int {
	if p.bad {
		return len(p.spoiled)
	}
	return len(p.clean)
}

// byteAt is one byte of the copy.
func (p *parcel) byteAt(at int) byte {
	if p.bad {
		return p.spoiled[at]
	}
	return p.clean[at].value
}

// bytes is the bytes of the copy, as new memory.
func (p *parcel) bytes() []byte {
	if p.bad {
		return slices.Clone(p.spoiled)
	}
	return plain(p.clean)
}

// spoil makes the copy a bad one, which has bytes of its own.
func (p *parcel) spoil(data []byte) { p.bad, p.spoiled = true, data }

// tell is the copy as it is answered.
func (p *parcel) tell(num int) api.Copy {
	return api.Copy{Num: num, From: p.from, To: p.to, Data: p.bytes(), Sent: p.step, Bad: p.bad}
}

// octets is bytes as a frame keeps them.
func octets(data []byte) []octet {
	clean := make([]octet, len(data))
	for i, b := range data {
		clean[i].value = b
	}
	return clean
}

// plain is bytes that a frame keeps, as new memory.
func plain(clean []octet) []byte {
	data := make([]byte, len(clean))
	for i, o := range clean {
		data[i] = o.value
	}
	return data
}
