package replica_test

import (
	"encoding/binary"
	"hash/crc32"
	"slices"
	"strings"
	"testing"
	"unicode/utf8"

	"hearsay/api"
	"hearsay/frame"
	"hearsay/replica"
)

// What the chapter says, worked out a second time by other means. No layer is asked but what bytes say (chapter 10's Decode): vectors are arrays, the document is one flat list in its order, the log is whatever was ever got and the base has not, rows are worked out of all that was ever said.

// vec is how many operations of each site.
type vec [api.MaxSites + 1]int

func vecOf(v api.Vector) vec {
	var w vec
	for _, d := range v {
		w[d.Site] = d.Seq
	}
	return w
}

func (v vec) vector() api.Vector {
	var l api.Vector
	for site, seq := range v {
		if seq > 0 {
			l = append(l, api.Dot{Site: site, Seq: seq})
		}
	}
	return l
}

func (v vec) has(d api.Dot) bool { return d.Seq <= v[d.Site] }

func (v vec) covers(w vec) bool {
	for site := range v {
		if v[site] < w[site] {
			return false
		}
	}
	return true
}

func (v vec) with(w vec) vec {
	for site := range v {
		v[site] = max(v[site], w[site])
	}
	return v
}

func (v vec) only(w vec) vec {
	for site := range v {
		v[site] = min(v[site], w[site])
	}
	return v
}

func (v vec) sum() int {
	n := 0
	for _, seq := range v {
		n += seq
	}
	return n
}

// talk is what is known of a talk with a peer.
type talk struct {
	last, got, credit int
	flight            []int
	gap, due          int // of its timer
}

// model is a site.
type model struct {
	site            int
	c               api.Config
	active, leaving bool
	clock, tick     int
	have, base      vec
	got             []api.Op // all that it ever got, cut off or not
	waits           []api.Op
	nodes           []api.Node
	said            map[int][]vec
	usable          map[int]vec
	talks           map[int]*talk
	joined, left    [api.MaxSites + 1]bool
	epoch           int
	seen            seen
}

// seen is how often something happened, so that a test can tell that it came to it.
type seen map[string]int

func (s seen) add(other seen) {
	for what, n := range other {
		s[what] += n
	}
}

// want wants that each of these was seen often.
func (s seen) want(t *testing.T, all ...string) {
	t.Helper()
	t.Log(s)
	for _, what := range all {
		if s[what] < 20 {
			t.Errorf("%s: %d times", what, s[what])
		}
	}
}

func newModel(site int, c api.Config) *model {
	return &model{site: site, c: c, said: map[int][]vec{}, usable: map[int]vec{}, talks: map[int]*talk{}, seen: seen{}}
}

func foundModel(site int, c api.Config) *model {
	m := newModel(site, c)
	m.active = true
	m.issue(api.Op{Kind: api.OpJoin, Site: site})
	return m
}

// The document.

func below(a, b api.ID) bool { return a.Time < b.Time || a.Time == b.Time && a.Site < b.Site }

func (m *model) where(id api.ID) int {
	return slices.IndexFunc(m.nodes, func(n api.Node) bool { return n.ID == id })
}

// lay lays a text into the flat list: each rune goes behind its ref, and behind all that come there with a higher identifier. (Whatever stands behind an element is higher than it.)
func (m *model) lay(id, ref api.ID, text string) {
	n := utf8.RuneCountInString(text)
	if ref != (api.ID{}) && m.where(ref) < 0 {
		m.seen["insert refused"]++
		return
	}
	for i := range n {
		if m.where(api.ID{Time: id.Time + i, Site: id.Site}) >= 0 {
			m.seen["insert refused"]++
			return
		}
	}
	for _, r := range text {
		at := m.where(ref) + 1
		for at < len(m.nodes) && below(id, m.nodes[at].ID) {
			at++
		}
		m.nodes = slices.Insert(m.nodes, at, api.Node{ID: id, Ref: ref, Rune: r, State: api.StateShown})
		ref = id
		id.Time++
	}
}

func names(runs []api.Run, id api.ID) bool {
	for _, r := range runs {
		if r.ID.Site == id.Site && r.ID.Time <= id.Time && id.Time-r.ID.Time < r.Count {
			return true
		}
	}
	return false
}

func (m *model) turn(runs []api.Run, from, to int) {
	for i, n := range m.nodes {
		if n.State == from && names(runs, n.ID) {
			m.nodes[i].State = to
		}
	}
}

// collect forgets settled ones without any behind, one at a time.
func (m *model) collect() {
	for i := 0; i < len(m.nodes); i++ {
		n := m.nodes[i]
		if n.State == api.StateSettled && !slices.ContainsFunc(m.nodes, func(x api.Node) bool { return x.Ref == n.ID }) {
			m.nodes = slices.Delete(m.nodes, i, i+1)
			m.seen["forgotten"]++
			i = -1
		}
	}
}

func (m *model) shown() []api.Node {
	return slices.DeleteFunc(slices.Clone(m.nodes), func(n api.Node) bool { return n.State != api.StateShown })
}

func (m *model) text() string {
	var b strings.Builder
	for _, n := range m.shown() {
		b.WriteRune(n.Rune)
	}
	return b.String()
}

func (m *model) find(id api.ID) (int, int) {
	ahead := 0
	for _, n := range m.nodes {
		if n.ID == id {
			return ahead, n.State
		}
		if n.State == api.StateShown {
			ahead++
		}
	}
	return 0, 0
}

// Who is a member.

func (m *model) member(site int) bool {
	return site >= 1 && site <= api.MaxSites && m.joined[site] && !m.left[site]
}

func (m *model) enter(list *[api.MaxSites + 1]bool, site int) {
	was := m.member(site)
	list[site] = true
	if m.member(site) != was {
		m.epoch++
	}
}

func sites(is func(int) bool) []int {
	var l []int
	for site := 1; site <= api.MaxSites; site++ {
		if is(site) {
			l = append(l, site)
		}
	}
	return l
}

// Operations.

func (m *model) log() []api.Op {
	return slices.DeleteFunc(slices.Clone(m.got), func(o api.Op) bool { return m.base.has(o.Dot) })
}

func lastOf(o api.Op) int {
	last := 0
	if o.Kind == api.OpInsert {
		last = o.ID.Time + utf8.RuneCountInString(o.Text) - 1
	}
	for _, r := range o.Gone {
		last = max(last, r.ID.Time+r.Count-1)
	}
	return last
}

func (m *model) deliver(o api.Op) {
	m.got = append(m.got, o)
	m.have[o.Dot.Site]++
	m.clock = max(m.clock, lastOf(o))
	switch o.Kind {
	case api.OpInsert:
		m.lay(o.ID, o.Ref, o.Text)
	case api.OpDelete:
		m.turn(o.Gone, api.StateShown, api.StateDeleted)
	case api.OpJoin:
		m.enter(&m.joined, o.Site)
	case api.OpLeave:
		m.enter(&m.left, o.Dot.Site)
		if o.Dot.Site == m.site {
			m.leaving = true
			m.seen["left"]++
		}
	}
}

func (m *model) fits(o api.Op) bool {
	return m.have[o.Dot.Site] == o.Dot.Seq-1 && m.have.covers(vecOf(o.Deps))
}

// release delivers what waits and can be, the first one each time.
func (m *model) release() {
	// A number that was given meanwhile is not waited for any more.
	was := len(m.waits)
	m.waits = slices.DeleteFunc(m.waits, func(o api.Op) bool { return m.have.has(o.Dot) })
	m.seen["ousted"] += was - len(m.waits)
	for {
		i := slices.IndexFunc(m.waits, m.fits)
		if i < 0 {
			return
		}
		o := m.waits[i]
		m.waits = slices.Delete(m.waits, i, i+1)
		m.deliver(o)
		m.seen["released"]++
	}
}

func (m *model) offer(o api.Op) {
	switch {
	case m.have.has(o.Dot) || slices.ContainsFunc(m.waits, func(x api.Op) bool { return x.Dot == o.Dot }):
		m.seen["had"]++
	case m.fits(o):
		if o.Dot.Site == m.site {
			m.seen["own by others"]++
		}
		m.deliver(o)
		m.release()
	default:
		m.seen["held"]++
		m.waits = append(m.waits, o)
		if len(m.waits) > m.c.Hold {
			m.seen["dropped"]++
			far := slices.MaxFunc(m.waits, func(a, b api.Op) int {
				key := func(o api.Op) []int { return []int{vecOf(o.Deps).sum(), o.Dot.Site, o.Dot.Seq} }
				return slices.Compare(key(a), key(b))
			})
			m.waits = slices.DeleteFunc(m.waits, func(x api.Op) bool { return x.Dot == far.Dot })
		}
	}
}

func (m *model) issue(o api.Op) api.Op {
	o.Dot = api.Dot{Site: m.site, Seq: m.have[m.site] + 1}
	o.Deps = m.have.vector()
	m.deliver(o)
	m.release()
	return o
}

func (m *model) row(p int) (vec, bool) {
	var v vec
	for _, s := range m.said[p] {
		v = v.with(s)
	}
	return v, len(m.said[p]) > 0
}

// lacking is what of the log a peer's row has not.
func (m *model) lacking(p int) []api.Op {
	row, _ := m.row(p)
	return slices.DeleteFunc(m.log(), func(o api.Op) bool { return row.has(o.Dot) })
}

func (m *model) frontier() vec {
	all := m.have
	for p := 1; p <= api.MaxSites; p++ {
		if p != m.site && m.member(p) {
			all = all.only(m.usable[p])
		}
	}
	return all
}

func (m *model) tidy() {
	for p := range m.said {
		if row, _ := m.row(p); m.have.covers(row) {
			m.usable[p] = row
		}
	}
	log := m.log()
	if len(log) <= m.c.Keep {
		return
	}
	upto := m.frontier()
	for _, o := range log {
		if upto.has(o.Dot) {
			m.seen["cut"]++
			m.turn(o.Gone, api.StateDeleted, api.StateSettled)
		}
	}
	m.base = m.base.with(upto)
	if len(m.log()) == len(log) {
		m.seen["cut of nothing"]++
	}
	m.collect()
}

// Frames.

func (m *model) talk(p int) *talk {
	if m.talks[p] == nil {
		m.talks[p] = &talk{credit: m.c.Push}
	}
	return m.talks[p]
}

func (m *model) hush(p int) {
	t := m.talk(p)
	t.flight, t.gap, t.due = nil, 0, 0
}

// send is the number of the next frame, which waits for its acknowledgement.
func (m *model) send(p int) int {
	t := m.talk(p)
	if len(t.flight) == m.c.Window {
		m.seen["number again"]++
		return t.flight[0]
	}
	t.last = min(t.last+1, api.MaxNum)
	if !slices.Contains(t.flight, t.last) {
		t.flight = append(t.flight, t.last)
	}
	return t.last
}

func (m *model) speak(p int, answer bool) replica.Out {
	t := m.talk(p)
	f := api.Frame{Kind: api.FrameOps, From: m.site, To: p, Got: t.got, Credit: m.c.Hold - len(m.waits), Answer: answer, Have: m.have.vector()}
	if answer {
		m.seen["answer"]++
	}
	if _, heard := m.row(p); !heard {
		f.Kind, f.Image, f.Num = api.FrameImage, m.image(), m.send(p)
		m.seen["image"]++
	} else if lacking := m.lacking(p); len(lacking) > 0 {
		f.Ops = lacking[:min(len(lacking), m.c.Push, max(t.credit, 1))]
		f.Num = m.send(p)
		m.seen["operations"]++
	} else {
		m.seen["no operations"]++
	}
	if f.Num > 0 && t.gap == 0 {
		t.gap, t.due = m.c.Min, m.tick+m.c.Min
	}
	return replica.Out{To: p, Data: laid(f)}
}

// laid is the bytes of a frame, by chapter 10.
func laid(f api.Frame) []byte {
	answer := 0
	if f.Answer {
		answer = 1
	}
	body := numbers(nil, f.Kind, f.From, f.To, f.Num, f.Got, f.Credit, answer)
	body = laidVector(body, f.Have)
	if f.Kind == api.FrameImage {
		body = laidImage(body, f.Image)
	} else {
		body = laidOps(body, f.Ops)
	}
	return summed(body)
}

// summed is a body with its length and its sum.
func summed(body []byte) []byte {
	all := append(binary.LittleEndian.AppendUint32(nil, uint32(len(body))), body...)
	return binary.LittleEndian.AppendUint32(all, crc32.ChecksumIEEE(all))
}

func numbers(b []byte, all ...int) []byte {
	for _, n := range all {
		b = binary.AppendUvarint(b, uint64(n))
	}
	return b
}

func laidVector(b []byte, v api.Vector) []byte {
	b = numbers(b, len(v))
	for _, d := range v {
		b = numbers(b, d.Site, d.Seq)
	}
	return b
}

func laidOps(b []byte, ops []api.Op) []byte {
	b = numbers(b, len(ops))
	for _, o := range ops {
		b = laidVector(numbers(b, o.Kind, o.Dot.Site, o.Dot.Seq), o.Deps)
		switch o.Kind {
		case api.OpInsert:
			b = append(numbers(b, o.ID.Time, o.Ref.Time, o.Ref.Site, len(o.Text)), o.Text...)
		case api.OpDelete:
			b = numbers(b, len(o.Gone))
			for _, r := range o.Gone {
				b = numbers(b, r.ID.Time, r.ID.Site, r.Count)
			}
		case api.OpJoin:
			b = numbers(b, o.Site)
		}
	}
	return b
}

func laidImage(b []byte, i api.Image) []byte {
	b = laidOps(numbers(laidVector(laidVector(b, i.Vector), i.Base), i.Clock), i.Log)
	b = numbers(b, len(i.Nodes))
	for _, n := range i.Nodes {
		b = numbers(b, n.ID.Time, n.ID.Site, n.Ref.Time, n.Ref.Site, int(n.Rune), n.State)
	}
	b = numbers(numbers(b, len(i.Joined)), i.Joined...)
	return numbers(numbers(numbers(b, len(i.Left)), i.Left...), i.Epoch)
}

// The calls.

// mayEdit is the errors that come first of all edits.
func (m *model) mayEdit() api.Errno {
	switch {
	case !m.active:
		return api.ErrIdle
	case m.leaving:
		return api.ErrLeft
	}
	return api.OK
}

// done issues an operation, if it has a number for it.
func (m *model) done(o api.Op) (api.Op, api.Errno) {
	if m.have[m.site] == api.MaxSeq {
		return api.Op{}, api.ErrFull
	}
	o = m.issue(o)
	m.tidy()
	return o, api.OK
}

func (m *model) insert(at int, text string) (api.Op, api.Errno) {
	n := utf8.RuneCountInString(text)
	shown := m.shown()
	switch err := m.mayEdit(); {
	case err != api.OK:
		return api.Op{}, err
	case text == "" || !utf8.ValidString(text):
		return api.Op{}, api.ErrText
	case n > 1024:
		return api.Op{}, api.ErrLong
	case at < 0 || at > len(shown):
		return api.Op{}, api.ErrIndex
	case m.clock+n > api.MaxTime:
		return api.Op{}, api.ErrFull
	}
	o := api.Op{Kind: api.OpInsert, ID: api.ID{Time: m.clock + 1, Site: m.site}, Text: text}
	if at > 0 {
		o.Ref = shown[at-1].ID
	}
	return m.done(o)
}

func (m *model) delete(at, n int) (api.Op, api.Errno) {
	shown := m.shown()
	switch err := m.mayEdit(); {
	case err != api.OK:
		return api.Op{}, err
	case at < 0 || n < 1 || at > len(shown) || n > len(shown)-at:
		return api.Op{}, api.ErrIndex
	}
	gone := pack(shown[at : at+n])
	if len(gone) > 1024 {
		return api.Op{}, api.ErrLong
	}
	return m.done(api.Op{Kind: api.OpDelete, Gone: gone})
}

// pack is the runs of some elements, each as long as can be, in the order of their identifiers.
func pack(nodes []api.Node) []api.Run {
	var ids []api.ID
	for _, n := range nodes {
		ids = append(ids, n.ID)
	}
	slices.SortFunc(ids, func(a, b api.ID) int { return slices.Compare([]int{a.Site, a.Time}, []int{b.Site, b.Time}) })
	var runs []api.Run
	for _, id := range ids {
		if k := len(runs) - 1; k >= 0 && runs[k].ID.Site == id.Site && runs[k].ID.Time+runs[k].Count == id.Time {
			runs[k].Count++
		} else {
			runs = append(runs, api.Run{ID: id, Count: 1})
		}
	}
	slices.SortFunc(runs, func(a, b api.Run) int {
		return slices.Compare([]int{a.ID.Time, a.ID.Site}, []int{b.ID.Time, b.ID.Site})
	})
	return runs
}

func (m *model) join(site int) (api.Op, api.Errno) {
	switch err := m.mayEdit(); {
	case err != api.OK:
		return api.Op{}, err
	case site < 1 || site > 16:
		return api.Op{}, api.ErrArg
	case m.joined[site] || m.left[site]:
		return api.Op{}, api.ErrExists
	}
	return m.done(api.Op{Kind: api.OpJoin, Site: site})
}

func (m *model) leave() (api.Op, api.Errno) {
	if err := m.mayEdit(); err != api.OK {
		return api.Op{}, err
	}
	return m.done(api.Op{Kind: api.OpLeave})
}

func (m *model) draw(p int) ([]replica.Out, api.Errno) {
	switch {
	case !m.active:
		return nil, api.ErrIdle
	case p == m.site || !m.member(p):
		return nil, api.ErrArg
	}
	return []replica.Out{m.speak(p, false)}, api.OK
}

func (m *model) doTick() ([]replica.Out, api.Errno) {
	if m.tick == api.MaxNum {
		return nil, api.ErrFull
	}
	m.tick++
	var due []int
	for p, t := range m.talks {
		if t.gap > 0 && t.due <= m.tick {
			due = append(due, p)
		}
	}
	slices.SortFunc(due, func(a, b int) int { return slices.Compare([]int{m.talks[a].due, a}, []int{m.talks[b].due, b}) })
	var out []replica.Out
	for _, p := range due {
		t := m.talks[p]
		t.gap = min(2*t.gap, m.c.Max)
		t.due = m.tick + t.gap
		m.seen["due"]++
		_, heard := m.row(p)
		if !m.member(p) || heard && len(m.lacking(p)) == 0 {
			m.seen["hushed at a tick"]++
			m.hush(p)
		} else {
			out = append(out, m.speak(p, false))
		}
	}
	return out, api.OK
}

func (m *model) receive(data []byte) ([]replica.Out, api.Errno) {
	f, err := frame.Decode(data)
	switch {
	case err != api.OK:
		return nil, err
	case f.To != m.site || f.From == m.site:
		return nil, api.ErrSite
	case !m.active && f.Kind != api.FrameImage:
		return nil, api.ErrIdle
	case !m.active && (!slices.Contains(f.Image.Joined, m.site) || slices.Contains(f.Image.Left, m.site)):
		return nil, api.ErrSite
	case !m.active:
		m.begin(f.Image)
	}
	m.note(f)
	ops := f.Ops
	if f.Kind == api.FrameImage {
		ops = f.Image.Log
	}
	for _, o := range ops {
		if m.leaving {
			m.seen["not offered"]++
			continue
		}
		m.offer(o)
	}
	if len(m.lacking(f.From)) == 0 {
		m.hush(f.From)
	}
	m.tidy()
	if !f.Answer && m.member(f.From) && (len(m.lacking(f.From)) > 0 || f.Num > 0) {
		return []replica.Out{m.speak(f.From, true)}, api.OK
	}
	return nil, api.OK
}

// begin takes in an image.
func (m *model) begin(i api.Image) {
	m.active = true
	m.have, m.base, m.clock = vecOf(i.Vector), vecOf(i.Base), i.Clock
	m.got, m.nodes = i.Log, i.Nodes
	for _, site := range i.Joined {
		m.joined[site] = true
	}
	for _, site := range i.Left {
		m.left[site] = true
	}
	m.epoch = i.Epoch
}

// note takes in what a frame says of its sender.
func (m *model) note(f api.Frame) {
	m.said[f.From] = append(m.said[f.From], vecOf(f.Have))
	t := m.talk(f.From)
	t.got = max(t.got, f.Num)
	t.credit = f.Credit
	was := len(t.flight)
	t.flight = slices.DeleteFunc(t.flight, func(num int) bool { return num <= f.Got })
	switch {
	case len(t.flight) == was:
	case len(t.flight) == 0:
		m.seen["timer off"]++
		t.gap, t.due = 0, 0
	default:
		m.seen["timer anew"]++
		t.gap, t.due = m.c.Min, m.tick+m.c.Min
	}
}

func (m *model) image() api.Image {
	if !m.active {
		return api.Image{}
	}
	return api.Image{
		Vector: m.have.vector(), Base: m.base.vector(), Clock: m.clock, Log: m.log(), Nodes: slices.Clone(m.nodes),
		Joined: sites(func(n int) bool { return m.joined[n] }), Left: sites(func(n int) bool { return m.left[n] }), Epoch: m.epoch,
	}
}

func (m *model) sight() api.Sight {
	s := api.Sight{
		Site: m.site, Active: m.active, Leaving: m.leaving, Vector: m.have.vector(), Base: m.base.vector(), Clock: m.clock, Tick: m.tick,
		Log: len(m.log()), Kept: len(m.nodes), Members: sites(m.member), Epoch: m.epoch,
	}
	for site := 1; site <= api.MaxSites; site++ {
		var seqs []int
		for _, o := range m.waits {
			if o.Dot.Site == site {
				seqs = append(seqs, o.Dot.Seq)
			}
		}
		slices.Sort(seqs)
		for _, seq := range seqs {
			s.Held = append(s.Held, api.Dot{Site: site, Seq: seq})
		}
	}
	for p := 1; p <= api.MaxSites; p++ {
		t := m.talks[p]
		row, heard := m.row(p)
		if t == nil && !heard {
			continue
		}
		s.Peers = append(s.Peers, api.PeerSight{
			Peer: p, Heard: heard, Row: row.vector(), Usable: m.usable[p].vector(),
			Flight: t.flight, Got: t.got, Credit: t.credit, Gap: t.gap, Due: t.due,
		})
	}
	return s
}
