package whole_test

import (
	"math/rand"
	"slices"
	"testing"
	"unicode/utf16"
	"unicode/utf8"

	"hearsay/api"
	"hearsay/clump"
	"hearsay/editor"
	"hearsay/replica"
)

// room is editors of some sites, all of which talk with one more site, the founder, that draws them.
type room struct {
	t       *testing.T
	chance  *rand.Rand
	hub     *replica.Replica
	editors []*editor.Editor // of the sites from 2 on
	next    rune             // each rune that is typed is another one, so that it tells which element it is
	saw     map[string]int
}

func newRoom(t *testing.T, chance *rand.Rand, sites int, saw map[string]int) *room {
	t.Helper()
	c := someConfig(chance)
	hub, err := replica.Found(1, c)
	if err != api.OK {
		t.Fatalf("Found: error %d", int(err))
	}
	m := &room{t: t, chance: chance, hub: hub, next: 0x3400, saw: saw}
	for site := 2; site <= sites+1; site++ {
		r, err := replica.Idle(site, c)
		if err != api.OK {
			t.Fatalf("Idle: error %d", int(err))
		}
		hub.Join(site)
		m.editors = append(m.editors, editor.Open(r))
		m.talk(site)
	}
	return m
}

// talk lets the hub and a site hear of each other.
func (m *room) talk(site int) {
	m.t.Helper()
	said, err := m.hub.Draw(site)
	if err != api.OK {
		m.t.Fatalf("Draw(%d): error %d", site, int(err))
	}
	for len(said) > 0 {
		answers, err := m.editors[site-2].Receive(said[0].Data)
		if err != api.OK {
			m.t.Fatalf("site %d receives: error %d", site, int(err))
		}
		said = nil
		for _, a := range answers {
			said, _ = m.hub.Receive(a.Data)
		}
	}
}

// fresh is a text of runes that were never typed, of all widths, some of which are marks, or ends of lines.
func (m *room) fresh(n int) string {
	var l []rune
	for range n {
		m.next++
		l = append(l, m.next)
		if m.chance.Intn(3) == 0 {
			l[len(l)-1] += 0x20000 - 0x3400 // two units of UTF-16
		}
	}
	return string(l)
}

// anchored is an editor with anchors, each at a place of its text: the model of what becomes of them.
type anchored struct {
	e     *editor.Editor
	marks map[int]rune // behind which rune an anchor stands; 0: at the beginning
}

// mark lays an anchor at some place.
func (a *anchored) mark(m *room) {
	m.t.Helper()
	l := []rune(a.e.Text())
	at := m.chance.Intn(len(l) + 1)
	mark, err := a.e.Mark(api.UnitRune, at)
	if err != api.OK {
		m.t.Fatalf("Mark(%d): error %d", at, int(err))
	}
	a.marks[mark] = 0
	if at > 0 {
		a.marks[mark] = l[at-1]
	}
}

// follow works out where anchors stand behind a call that turned one text to another: with their runes, as long as these are shown, and else behind the nearest one ahead that is.
func (a *anchored) follow(m *room, before string) {
	m.t.Helper()
	was, now := []rune(before), []rune(a.e.Text())
	for mark, r := range a.marks {
		place := slices.Index(was, r)
		for place >= 0 && !slices.Contains(now, was[place]) {
			place--
		}
		want := rune(0)
		if place >= 0 {
			want = was[place]
		}
		if want != r {
			m.saw["anchors whose rune went"]++
		} else if r != 0 {
			m.saw["anchors whose rune stayed"]++
		}
		a.marks[mark] = want
		spot, err := a.e.Where(mark)
		if err != api.OK || spot != spotOf(now, slices.Index(now, want)+1) {
			m.t.Fatalf("%q became %q, and anchor %d, that stood behind %q, is at %+v, error %d; want it behind %q", before, string(now), mark, r, spot, int(err), want)
		}
	}
}

// spotOf is a place among runes, in all units, counted one by one.
func spotOf(l []rune, at int) api.Spot {
	head := string(l[:at])
	s := api.Spot{Byte: len(head), Rune: at, Unit: len(utf16.Encode(l[:at])), Line: 1, Column: 1}
	all := string(l)
	for i := 1; i <= len(head); i++ {
		if clump.Break(all, i) {
			s.Clump++
		}
	}
	for i, r := range l[:at] {
		s.Column++
		ends := r == '\r' && (i+1 == len(l) || l[i+1] != '\n') || r == '\n'
		if ends {
			s.Line, s.Column = s.Line+1, 1
		}
	}
	return s
}

// TestAnchors: P0.10: anchors through edits of one's own and of others: each stays with its rune as long as that is shown, and else goes behind the nearest shown one ahead of it.
func TestAnchors(t *testing.T) {
	t.Parallel()
	saw := map[string]int{}
	for seed := range rounds(60) {
		chance := rand.New(rand.NewSource(10000 + int64(seed)))
		m := newRoom(t, chance, 2+seed%4, saw)
		var all []*anchored
		for _, e := range m.editors {
			all = append(all, &anchored{e, map[int]rune{}})
		}
		for range 150 {
			i := chance.Intn(len(all))
			a := all[i]
			if len(a.marks) < 6 || chance.Intn(20) == 0 {
				a.mark(m)
			}
			before := a.e.Text()
			if chance.Intn(3) == 0 {
				m.talk(i + 2)
			} else {
				m.edit(a)
			}
			a.follow(m, before)
		}
	}
	wantSaw(t, saw, rounds(300), "anchors whose rune went", "anchors whose rune stayed")
}

// edit does some edit, by any unit.
func (m *room) edit(a *anchored) {
	m.t.Helper()
	l := []rune(a.e.Text())
	from := m.chance.Intn(len(l) + 1)
	to := min(from+m.chance.Intn(5), len(l))
	unit := pick(m.chance, api.UnitByte, api.UnitRune, api.UnitUTF16)
	var err api.Errno
	switch k := m.chance.Intn(10); {
	case k < 4:
		_, err = a.e.Type(unit, in(unit, l, from), m.fresh(1+m.chance.Intn(3)))
	case k < 7 && from < to:
		_, err = a.e.Erase(unit, in(unit, l, from), in(unit, l, to))
	case len(l) < 300:
		_, err = a.e.SetText(m.changed(l))
	}
	if err != api.OK {
		m.t.Fatalf("an edit of %q from %d to %d: error %d", string(l), from, to, int(err))
	}
}

// in is the place ahead of a rune, as a number of a unit.
func in(unit int, l []rune, at int) int {
	s := spotOf(l, at)
	return map[int]int{api.UnitByte: s.Byte, api.UnitRune: s.Rune, api.UnitUTF16: s.Unit}[unit]
}

// changed is runes with some left out, and with new ones between.
func (m *room) changed(l []rune) string {
	s := ""
	for _, r := range l {
		if m.chance.Intn(8) == 0 {
			s += m.fresh(m.chance.Intn(3))
		}
		if m.chance.Intn(6) > 0 {
			s += string(r)
		}
	}
	return s
}

// pieces is of what texts are made: all widths, marks, pairs of units, line's ends of all kinds, joiners, flags.
func pieces() []string {
	return []string{"a", "b", "é", "e\u0301", "中", "𝄞", "😀", "👩\u200d👧", "🇩🇪", "\n", "\r", "\r\n", "\n\r", "\u2028", "\x00", "\ufffd", "한", "\u1100\u1161"}
}

func someGood(chance *rand.Rand, most int) string {
	s := ""
	for range chance.Intn(most + 1) {
		s += pick(chance, pieces()...)
	}
	return s
}

// longest is how many runes the longest row has that stands in both texts.
func longest(a, b []rune) int {
	row := make([]int, len(b)+1)
	for _, r := range a {
		last := slices.Clone(row)
		for j, q := range b {
			row[j+1] = max(last[j+1], row[j])
			if r == q {
				row[j+1] = last[j] + 1
			}
		}
	}
	return row[len(b)]
}

// weight is how many runes some operations drop and lay.
func weight(ops []api.Op) int {
	n := 0
	for _, o := range ops {
		n += utf8.RuneCountInString(o.Text)
		for _, r := range o.Gone {
			n += r.Count
		}
	}
	return n
}

// opened is an editor that shows a text.
func opened(t *testing.T, shows string) *editor.Editor {
	t.Helper()
	r, err := replica.Found(1, api.Config{Hold: 1, Window: 1, Push: 1, Min: 1, Max: 1, Keep: 5})
	if err != api.OK {
		t.Fatalf("Found: error %d", int(err))
	}
	e := editor.Open(r)
	if _, err := e.SetText(shows); err != api.OK || e.Text() != shows {
		t.Fatalf("SetText(%q): error %d, and %q is shown", shows, int(err), e.Text())
	}
	return e
}

// wantSet holds SetText of a text against what is promised of it.
func wantSet(t *testing.T, e *editor.Editor, to string) {
	t.Helper()
	from := e.Text()
	ops, err := e.SetText(to)
	a, b := []rune(from), []rune(to)
	want := api.OK
	switch {
	case !utf8.ValidString(to):
		want = api.ErrText
	case len(a) > api.MaxDiff || len(b) > api.MaxDiff:
		want = api.ErrLong
	}
	if err != want {
		t.Fatalf("SetText(%q) of %q: error %d; want %d", to, from, int(err), int(want))
	}
	if err != api.OK {
		to, b = from, a
	}
	if least := len(a) + len(b) - 2*longest(a, b); e.Text() != to || weight(ops) != least {
		t.Fatalf("SetText(%q) of %q: error %d, %+v, and %q is shown; %d runes are enough", to, from, int(err), ops, e.Text(), least)
	}
}

// TestSetText: P0.10: of many pairs of texts the one becomes the other, by as few runes as can be; what is no text, or is too long, changes nothing.
func TestSetText(t *testing.T) {
	t.Parallel()
	chance := rand.New(rand.NewSource(10200))
	bad := []string{"\xff", "a\xc3", "\xed\xa0\x80", "\xf4\x90\x80\x80", "é\x80", "\xc0\x80"}
	for range rounds(400) {
		from := someGood(chance, 12)
		e := opened(t, from)
		for range 6 {
			to := someGood(chance, 12)
			switch chance.Intn(4) {
			case 0:
				to = near(chance, e.Text())
			case 1:
				to = someGood(chance, 3) + pick(chance, bad...) + someGood(chance, 3)
			}
			wantSet(t, e, to)
		}
	}
	for range rounds(24) {
		e := opened(t, someGood(chance, 200))
		wantSet(t, e, someGood(chance, 200))
		wantSet(t, e, near(chance, e.Text()))
	}
	for _, n := range []int{api.MaxDiff - 1, api.MaxDiff, api.MaxDiff + 1, 3 * api.MaxDiff} {
		e := opened(t, "é")
		wantSet(t, e, string(slices.Repeat([]rune("é"), n)))
		wantSet(t, e, "")
	}
	// One that shows too much is not compared either.
	e := opened(t, string(slices.Repeat([]rune("y"), api.MaxDiff)))
	if _, err := e.Type(api.UnitRune, 3, "é"); err != api.OK {
		t.Fatalf("Type: error %d", int(err))
	}
	wantSet(t, e, "y")
}

// near is a text with a few runes left out, doubled or exchanged.
func near(chance *rand.Rand, s string) string {
	l := []rune(s)
	for range chance.Intn(4) {
		if len(l) < 2 {
			break
		}
		i := chance.Intn(len(l) - 1)
		switch chance.Intn(3) {
		case 0:
			l = slices.Delete(l, i, i+1)
		case 1:
			l = slices.Insert(l, i, l[i+1])
		default:
			l[i], l[i+1] = l[i+1], l[i]
		}
	}
	return string(l)
}

// TestPlaces: P0.10: a place is one place in all units: each number of its spot leads to it, and what is typed, erased and marked there is typed, erased and marked at its rune.
func TestPlaces(t *testing.T) {
	t.Parallel()
	chance := rand.New(rand.NewSource(10300))
	for range rounds(200) {
		shows := someGood(chance, 9)
		l := []rune(shows)
		e := opened(t, shows)
		for at := range len(l) + 1 {
			want := spotOf(l, at)
			wantSpot(t, e, api.UnitRune, at, want)
			wantSpot(t, e, api.UnitByte, want.Byte, want)
			wantSpot(t, e, api.UnitUTF16, want.Unit, want)
			if clump.Break(shows, want.Byte) {
				wantSpot(t, e, api.UnitClump, want.Clump, want)
			}
			wantOnePlace(t, chance, shows, want)
		}
		wantNoSpots(t, e, l)
	}
}

func wantSpot(t *testing.T, e *editor.Editor, unit, n int, want api.Spot) {
	t.Helper()
	if got, err := e.Spot(unit, n); err != api.OK || got != want {
		t.Fatalf("%q: Spot(%d, %d) is %+v, error %d; want %+v", e.Text(), unit, n, got, int(err), want)
	}
}

// wantNoSpots: what lies within a rune, or beyond the text, is no place of any unit, nor is it one to type at.
func wantNoSpots(t *testing.T, e *editor.Editor, l []rune) {
	t.Helper()
	shows := string(l)
	refused := func(unit, n int, want api.Errno) {
		t.Helper()
		_, spot := e.Spot(unit, n)
		_, typed := e.Type(unit, n, "x")
		_, erased := e.Erase(unit, n, n)
		_, marked := e.Mark(unit, n)
		if spot != want || typed != want || erased != want || marked != want || e.Text() != shows {
			t.Fatalf("%q: %d of unit %d: errors %d, %d, %d, %d; want %d; %q is shown", shows, n, unit, int(spot), int(typed), int(erased), int(marked), int(want), e.Text())
		}
	}
	for i := range len(shows) {
		if !utf8.RuneStart(shows[i]) {
			refused(api.UnitByte, i, api.ErrWithin)
		}
	}
	units := 0
	for _, r := range l {
		if r >= 0x10000 {
			refused(api.UnitUTF16, units+1, api.ErrWithin)
		}
		units += utf16.RuneLen(r)
	}
	end := spotOf(l, len(l))
	for unit, n := range map[int]int{api.UnitByte: end.Byte, api.UnitRune: end.Rune, api.UnitUTF16: end.Unit, api.UnitClump: clump.Count(shows)} {
		refused(unit, n+1, api.ErrIndex)
		refused(unit, -1, api.ErrIndex)
	}
	refused(0, 0, api.ErrArg)
	refused(5, 0, api.ErrArg)
}

// wantOnePlace does the same at a place by each unit.
func wantOnePlace(t *testing.T, chance *rand.Rand, shows string, at api.Spot) {
	t.Helper()
	l := []rune(shows)
	typed := someGood(chance, 2) + "z"
	want := string(l[:at.Rune]) + typed + string(l[at.Rune:])
	for unit, n := range map[int]int{api.UnitByte: at.Byte, api.UnitRune: at.Rune, api.UnitUTF16: at.Unit} {
		e := opened(t, shows)
		mark, err := e.Mark(unit, n)
		if spot, where := e.Where(mark); err != api.OK || where != api.OK || spot != at {
			t.Fatalf("%q: Mark(%d, %d), and it is at %+v, errors %d, %d; want %+v", shows, unit, n, spot, int(err), int(where), at)
		}
		if _, err := e.Type(unit, n, typed); err != api.OK || e.Text() != want {
			t.Fatalf("%q: Type(%d, %d, %q), and %q is shown, error %d; want %q", shows, unit, n, typed, e.Text(), int(err), want)
		}
		if spot, _ := e.Where(mark); spot.Rune != at.Rune {
			t.Fatalf("%q: the anchor at rune %d is at %+v behind what was typed there", shows, at.Rune, spot)
		}
		behind := spotOf([]rune(want), at.Rune+len([]rune(typed)))
		till := map[int]int{api.UnitByte: behind.Byte, api.UnitRune: behind.Rune, api.UnitUTF16: behind.Unit}[unit]
		if _, err := e.Erase(unit, n, till); err != api.OK || e.Text() != shows {
			t.Fatalf("%q: Erase(%d, %d, %d), and %q is shown, error %d; want %q", want, unit, n, till, e.Text(), int(err), shows)
		}
	}
}
