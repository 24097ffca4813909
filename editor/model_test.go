package editor_test

import (
	"slices"
	"unicode/utf16"
	"unicode/utf8"

	"hearsay/api"
	"hearsay/replica"
)

// model is what an editor shall do, worked out a second time: a site of its own that is told the same in runes, places counted rune by rune, and of each anchor the whole list of what is shown up to it.
type model struct {
	site    *replica.Replica
	anchors map[int][]api.ID
	last    int

	was  []api.ID // what was shown ahead of the call
	seen seen
}

// seen is what came to pass, and how often.
type seen map[string]int

func newModel(site *replica.Replica) *model {
	return &model{site: site, anchors: map[int][]api.ID{}, seen: seen{}}
}

// shown is the elements that are shown, asked for by their numbers.
func (m *model) shown() []api.ID {
	var l []api.ID
	for i := range m.site.Len() {
		id, _ := m.site.At(i)
		l = append(l, id)
	}
	return l
}

// isMark tells whether a rune of the tests' texts belongs to the letter ahead of it.
func isMark(r rune) bool { return r == 0x303 }

// ends tells whether a letter ends ahead of the rune number k; for the runes alone that the tests' texts have.
func ends(runes []rune, k int) bool {
	switch {
	case k == 0:
		return false
	case k == len(runes):
		return true
	case runes[k-1] == '\r':
		return runes[k] != '\n'
	case runes[k-1] == '\n':
		return true
	}
	return !isMark(runes[k])
}

// endsLine tells whether a line's end ends ahead of the rune number k.
func endsLine(runes []rune, k int) bool {
	if k == 0 || runes[k-1] == '\r' && k < len(runes) && runes[k] == '\n' {
		return false
	}
	return runes[k-1] == '\n' || runes[k-1] == '\r'
}

// spotAhead is the place ahead of the rune number k.
func spotAhead(runes []rune, k int) api.Spot {
	s := api.Spot{Byte: len(string(runes[:k])), Rune: k, Unit: len(utf16.Encode(runes[:k])), Line: 1, Column: 1}
	for i := range k {
		s.Column++
		if ends(runes, i+1) {
			s.Clump++
		}
		if endsLine(runes, i+1) {
			s.Line++
			s.Column = 1
		}
	}
	return s
}

// number is what a spot has of a unit.
func number(s api.Spot, unit int) int {
	return []int{s.Byte, s.Rune, s.Unit, s.Clump}[unit-1]
}

// allSpots is all places of a text.
func allSpots(text string) []api.Spot {
	runes := []rune(text)
	var l []api.Spot
	for k := range len(runes) + 1 {
		l = append(l, spotAhead(runes, k))
	}
	return l
}

// findSpot is the first of the places of a text that has a number of a unit.
func findSpot(spots []api.Spot, unit, n int) (api.Spot, api.Errno) {
	if unit < 1 || unit > 4 {
		return api.Spot{}, api.ErrArg
	}
	if n < 0 || n > number(spots[len(spots)-1], unit) {
		return api.Spot{}, api.ErrIndex
	}
	for _, s := range spots {
		if number(s, unit) == n {
			return s, api.OK
		}
	}
	return api.Spot{}, api.ErrWithin
}

// spotOf is the spot of a unit and a number in a good text.
func spotOf(text string, unit, n int) (api.Spot, api.Errno) { return findSpot(allSpots(text), unit, n) }

func (m *model) spot(unit, at int) (api.Spot, api.Errno) { return spotOf(m.site.Text(), unit, at) }

func (m *model) insert(unit, at int, text string) (api.Op, api.Errno) {
	s, err := m.spot(unit, at)
	if err != api.OK {
		return api.Op{}, err
	}
	o, err := m.site.Insert(s.Rune, text)
	m.follow("typed")
	return o, err
}

func (m *model) erase(unit, from, to int) (api.Op, api.Errno) {
	a, err := m.spot(unit, from)
	if err != api.OK {
		return api.Op{}, err
	}
	b, err := m.spot(unit, to)
	if err != api.OK {
		return api.Op{}, err
	}
	if b.Rune <= a.Rune {
		return api.Op{}, api.ErrIndex
	}
	o, err := m.site.Delete(a.Rune, b.Rune-a.Rune)
	m.follow("erased")
	return o, err
}

func (m *model) setText(text string) ([]api.Op, api.Errno) {
	s := m.site.Sight()
	switch {
	case !s.Active:
		return nil, api.ErrIdle
	case s.Leaving:
		return nil, api.ErrLeft
	case !utf8.ValidString(text):
		return nil, api.ErrText
	case utf8.RuneCountInString(text) > api.MaxDiff || m.site.Len() > api.MaxDiff:
		return nil, api.ErrLong
	}
	seqs, times := api.MaxSeq, api.MaxTime-s.Clock
	for _, d := range s.Vector {
		if d.Site == s.Site {
			seqs -= d.Seq
		}
	}
	parts := leastParts([]rune(m.site.Text()), []rune(text))
	for _, p := range parts {
		seqs--
		times -= utf8.RuneCountInString(p.lay)
	}
	if seqs < 0 || times < 0 {
		return nil, api.ErrFull
	}
	var ops []api.Op
	for _, p := range parts {
		var o api.Op
		if p.drop > 0 {
			o, _ = m.site.Delete(p.at, p.drop)
		} else {
			o, _ = m.site.Insert(p.at, p.lay)
		}
		ops = append(ops, o)
	}
	m.follow("set")
	return ops, api.OK
}

// part is what one operation of SetText does, at a rune of what is shown by then.
type part struct {
	at, drop int
	lay      string
}

// common is, of what is left of a and b from each place on, how many runes at most stand in both in their order.
func common(a, b []rune) [][]int {
	left := make([][]int, len(a)+1)
	for i := range left {
		left[i] = make([]int, len(b)+1)
	}
	for i := len(a) - 1; i >= 0; i-- {
		for k := len(b) - 1; k >= 0; k-- {
			if a[i] == b[k] {
				left[i][k] = left[i+1][k+1] + 1
			} else {
				left[i][k] = max(left[i+1][k], left[i][k+1])
			}
		}
	}
	return left
}

// leastParts is how chapter 19 asks for chapter 5's change: between two runes that stay a delete of all that goes there, then an insert of all that comes there.
func leastParts(a, b []rune) []part {
	left := common(a, b)
	var parts []part
	var drop, lay []rune
	at := 0
	flush := func() {
		if len(drop) > 0 {
			parts = append(parts, part{at: at, drop: len(drop)})
		}
		if len(lay) > 0 {
			parts = append(parts, part{at: at, lay: string(lay)})
		}
		at += len(lay)
		drop, lay = nil, nil
	}
	i, k := 0, 0
	for i < len(a) || k < len(b) {
		switch {
		case i < len(a) && k < len(b) && a[i] == b[k]:
			flush()
			at++
			i++
			k++
		case i < len(a) && (k == len(b) || left[i+1][k] == left[i][k]):
			drop = append(drop, a[i])
			i++
		default:
			lay = append(lay, b[k])
			k++
		}
	}
	flush()
	return parts
}

// weight is how many runes operations drop and lay.
func weight(ops []api.Op) int {
	n := 0
	for _, o := range ops {
		n += utf8.RuneCountInString(o.Text)
		for _, r := range o.Gone {
			n += r.Count
		}
	}
	return n
}

func (m *model) receive(data []byte) ([]replica.Out, api.Errno) {
	out, err := m.site.Receive(data)
	m.follow("received")
	return out, err
}

func (m *model) mark(unit, at int) (int, api.Errno) {
	s, err := m.spot(unit, at)
	if err != api.OK {
		return 0, err
	}
	m.last++
	m.anchors[m.last] = m.shown()[:s.Rune]
	return m.last, api.OK
}

func (m *model) unmark(mark int) api.Errno {
	if _, ok := m.anchors[mark]; !ok {
		return api.ErrNone
	}
	delete(m.anchors, mark)
	return api.OK
}

func (m *model) where(mark int) (api.Spot, api.Errno) {
	l, ok := m.anchors[mark]
	if !ok {
		return api.Spot{}, api.ErrNone
	}
	return spotAhead([]rune(m.site.Text()), len(l)), api.OK
}

// follow takes off the list of each anchor, from its end on, what is shown no more; then it is what is shown up to the same element.
func (m *model) follow(by string) {
	now := m.shown()
	for mark, was := range m.anchors {
		l := was
		for len(l) > 0 && !slices.Contains(now, l[len(l)-1]) {
			l = l[:len(l)-1]
		}
		if n := len(l); n > 0 {
			l = now[:slices.Index(now, l[n-1])+1]
		}
		m.anchors[mark] = slices.Clone(l)
		m.note(by, was, l, now)
	}
	m.was = now
}

// note takes down how an anchor has moved.
func (m *model) note(by string, was, is, now []api.ID) {
	if len(was) == 0 {
		return
	}
	own := was[len(was)-1]
	if len(is) > 0 && is[len(is)-1] == own {
		if len(is) > len(was) {
			m.seen[by+": more ahead"]++
		}
		return
	}
	m.seen[by+": element gone"]++
	if len(is) == 0 {
		m.seen[by+": to the beginning"]++
	}
	if len(was) > 1 && (len(is) == 0 || is[len(is)-1] != was[len(was)-2]) {
		m.seen[by+": over several"]++
	}
	if len(now) > len(is) && !slices.Contains(m.was, now[len(is)]) {
		m.seen[by+": a new one in its place"]++
	}
	if _, state := m.site.Find(own); state == 0 {
		m.seen[by+": forgotten"]++
	}
}
