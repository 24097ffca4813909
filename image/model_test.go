package image_test

import (
	"cmp"
	"encoding/binary"
	"slices"

	"hearsay/api"
	"hearsay/op"
	"hearsay/stamp"
	"hearsay/vector"
)

// What the chapter says, worked out a second time by other means: logs by a map of how many operations of each site came, documents by inserting the lowest identifier first, rolls by playing all calls, and the library's numbers as bytes. Vectors and operations by themselves are those of chapters 7 and 8.

func wantCheck(m api.Image) api.Errno {
	for _, err := range []api.Errno{vector.Check(m.Vector), vector.Check(m.Base)} {
		if err != api.OK {
			return err
		}
	}
	has := map[int]int{}
	for _, d := range m.Vector {
		has[d.Site] = d.Seq
	}
	for _, d := range m.Base {
		if has[d.Site] < d.Seq {
			return api.ErrOrder
		}
	}
	if m.Clock < 0 || m.Clock>>31 != 0 {
		return api.ErrForm
	}
	return cmp.Or(wantLog(m), wantNodes(m.Nodes, m.Clock), wantRoll(m.Joined, m.Left, m.Epoch))
}

func wantLog(m api.Image) api.Errno {
	has := map[int]int{}
	for _, d := range m.Base {
		has[d.Site] = d.Seq
	}
	for _, o := range m.Log {
		if op.Check(o) != api.OK {
			return api.ErrOp
		}
		for _, d := range o.Deps {
			if has[d.Site] < d.Seq {
				return api.ErrOrder
			}
		}
		if has[o.Dot.Site]++; has[o.Dot.Site] != o.Dot.Seq || op.Last(o) > m.Clock {
			return api.ErrOrder
		}
	}
	for _, d := range m.Vector {
		if has[d.Site] != d.Seq {
			return api.ErrOrder
		}
		delete(has, d.Site)
	}
	if len(has) > 0 {
		return api.ErrOrder
	}
	return api.OK
}

func maybe(id api.ID) bool { return id.Time > 0 && id.Time>>31 == 0 && id.Site > 0 && id.Site < 17 }

// lower goes by both numbers at once, of identifiers that may be, and the beginning.
func lower(a, b api.ID) bool { return a.Time<<5+a.Site < b.Time<<5+b.Site }

// wantNode holds one node against each one ahead of it.
func wantNode(nodes []api.Node, i int) api.Errno {
	n := nodes[i]
	if !maybe(n.ID) || n.Ref != (api.ID{}) && !maybe(n.Ref) {
		return api.ErrArg
	}
	if string(n.Rune) == "\uFFFD" && n.Rune != 0xfffd || !slices.Contains([]int{1, 2, 3}, n.State) {
		return api.ErrForm
	}
	if !lower(n.Ref, n.ID) {
		return api.ErrOrder
	}
	exists, none := false, n.Ref.Time > 0
	for _, a := range nodes[:i] {
		exists = exists || a.ID == n.ID
		none = none && a.ID != n.Ref
	}
	switch {
	case exists:
		return api.ErrExists
	case none:
		return api.ErrNone
	}
	return api.OK
}

func wantNodes(nodes []api.Node, clock int) api.Errno {
	for i := range nodes {
		if err := wantNode(nodes, i); err != api.OK {
			return err
		}
	}
	late := slices.ContainsFunc(nodes, func(n api.Node) bool { return n.ID.Time > clock })
	if late || !slices.Equal(nodes, ordered(nodes)) {
		return api.ErrOrder
	}
	return api.OK
}

// ordered is nodes in the order of the document that they make: whatever is higher than all that is there stands just behind its ref.
func ordered(nodes []api.Node) []api.Node {
	rising := slices.SortedFunc(slices.Values(nodes), func(a, b api.Node) int {
		if lower(a.ID, b.ID) {
			return -1
		}
		return 1
	})
	var l []api.Node
	for _, n := range rising {
		at := slices.IndexFunc(l, func(a api.Node) bool { return a.ID == n.Ref })
		l = slices.Insert(l, at+1, n)
	}
	return l
}

// played is what calls of Join (true) and Leave (false) of one site lead to: whether it has joined, and left, and how often it became a member or ceased to be one.
func played(calls []bool) (joined, left bool, turns int) {
	member := false
	for _, join := range calls {
		joined, left = joined || join, left || !join
		if now := joined && !left; now != member {
			member = now
			turns++
		}
	}
	return joined, left, turns
}

// epochsOf is the numbers of turns to which some calls lead, of a site that has joined, or left, or both.
func epochsOf(joined, left bool) []int {
	var l []int
	for n := range 5 {
		for bits := range 1 << n {
			var calls []bool
			for i := range n {
				calls = append(calls, bits>>i&1 == 1)
			}
			if j, k, turns := played(calls); j == joined && k == left && !slices.Contains(l, turns) {
				l = append(l, turns)
			}
		}
	}
	return l
}

// epochs is epochsOf for all four, by whether it has joined, and has left.
var epochs = map[[2]bool][]int{
	{true, true}: epochsOf(true, true), {true, false}: epochsOf(true, false), {false, true}: epochsOf(false, true), {false, false}: epochsOf(false, false),
}

func rise(l []int) bool {
	for i, n := range l {
		if n < 1 || n > 16 || i > 0 && n <= l[i-1] {
			return false
		}
	}
	return true
}

// wantRoll goes through all sums that the sites' turns may come to.
func wantRoll(joined, left []int, epoch int) api.Errno {
	if !rise(joined) || !rise(left) || epoch < 0 {
		return api.ErrArg
	}
	sums := map[int]bool{0: true}
	for site := 1; site < 17; site++ {
		next := map[int]bool{}
		for sum := range sums {
			for _, turns := range epochs[[2]bool{slices.Contains(joined, site), slices.Contains(left, site)}] {
				next[sum+turns] = true
			}
		}
		sums = next
	}
	if !sums[epoch] {
		return api.ErrForm
	}
	return api.OK
}

// row is numbers as bytes.
func row(numbers ...int) []byte {
	var b []byte
	for _, n := range numbers {
		b = binary.AppendUvarint(b, uint64(n))
	}
	return b
}

// pieces is what Put lays of an image, thing by thing: each number by itself, each Text behind the number of its bytes.
type pieces [][]byte

func (p *pieces) numbers(numbers ...int) {
	for _, n := range numbers {
		*p = append(*p, row(n))
	}
}

func (p *pieces) dots(v api.Vector) {
	p.numbers(len(v))
	for _, d := range v {
		p.numbers(d.Site, d.Seq)
	}
}

func (p *pieces) op(o api.Op) {
	p.numbers(o.Kind, o.Dot.Site, o.Dot.Seq)
	p.dots(o.Deps)
	switch o.Kind {
	case api.OpInsert:
		p.numbers(o.ID.Time, o.Ref.Time, o.Ref.Site, len(o.Text))
		*p = append(*p, []byte(o.Text))
	case api.OpDelete:
		p.numbers(len(o.Gone))
		for _, r := range o.Gone {
			p.numbers(r.ID.Time, r.ID.Site, r.Count)
		}
	case api.OpJoin:
		p.numbers(o.Site)
	}
}

func (p *pieces) sites(l []int) {
	p.numbers(len(l))
	p.numbers(l...)
}

// wantPieces is what Put lays of an image that Check takes.
func wantPieces(m api.Image) pieces {
	var p pieces
	p.dots(m.Vector)
	p.dots(m.Base)
	p.numbers(m.Clock, len(m.Log))
	for _, o := range m.Log {
		p.op(o)
	}
	p.numbers(len(m.Nodes))
	for _, n := range m.Nodes {
		p.numbers(n.ID.Time, n.ID.Site, n.Ref.Time, n.Ref.Site, int(n.Rune), n.State)
	}
	p.sites(m.Joined)
	p.sites(m.Left)
	p.numbers(m.Epoch)
	return p
}

func wantBytes(m api.Image) []byte { return slices.Concat(wantPieces(m)...) }

// asking is an image that is being taken; once it has an error, nothing is taken any more.
type asking struct {
	left    []byte
	err     api.Errno
	stopped bool // the Reader could not take something
}

func (a *asking) fail(err api.Errno, stopped bool) {
	if a.err == api.OK {
		a.err, a.stopped = err, stopped
	}
}

// number takes one; it may not be above most, nor above how many bytes are left behind it, if that is asked.
func (a *asking) number(most int, within bool) int {
	if a.err != api.OK {
		return 0
	}
	end := slices.IndexFunc(a.left[:min(len(a.left), 9)], func(c byte) bool { return c < 0x80 })
	switch {
	case end < 0 && len(a.left) < 9:
		a.fail(api.ErrShort, true)
		return 0
	case end < 0 || end > 0 && a.left[end] == 0:
		a.fail(api.ErrForm, true)
		return 0
	}
	v, width := binary.Uvarint(a.left[:end+1])
	a.left = a.left[width:]
	if int(v) > most || within && int(v) > len(a.left) {
		a.fail(api.ErrForm, false)
	}
	return int(v)
}

const any63 = 1<<63 - 1

func (a *asking) into(l ...*int) {
	for _, n := range l {
		*n = a.number(any63, false)
	}
}

// below takes a thing by what chapter 7 or 8 says of it.
func below[T any](a *asking, take func(r *stamp.Reader) (T, api.Errno)) T {
	var none T
	if a.err != api.OK {
		return none
	}
	r := stamp.Read(a.left)
	x, err := take(r)
	a.left = a.left[len(a.left)-r.Left():]
	if err != api.OK {
		a.fail(err, r.Err() != api.OK)
		return none
	}
	return x
}

// wantTake answers the image, how many bytes are left, the error, and whether the Reader has that error too.
func wantTake(b []byte) (m api.Image, left int, err api.Errno, stopped bool) {
	a := &asking{left: b}
	m.Vector, m.Base = below(a, vector.Take), below(a, vector.Take)
	a.into(&m.Clock)
	for count := a.number(any63, true); count > 0 && a.err == api.OK; count-- {
		m.Log = append(m.Log, below(a, op.Take))
	}
	for count := a.number(any63, true); count > 0 && a.err == api.OK; count-- {
		var n api.Node
		a.into(&n.ID.Time, &n.ID.Site, &n.Ref.Time, &n.Ref.Site)
		n.Rune = rune(a.number(0x10ffff, false))
		a.into(&n.State)
		m.Nodes = append(m.Nodes, n)
	}
	for _, l := range []*[]int{&m.Joined, &m.Left} {
		*l = make([]int, min(a.number(16, false), 16))
		for i := range *l {
			a.into(&(*l)[i])
		}
	}
	a.into(&m.Epoch)
	if a.err == api.OK {
		a.fail(wantCheck(m), false)
	}
	if a.err != api.OK {
		m = api.Image{}
	}
	return m, len(a.left), a.err, a.stopped
}
