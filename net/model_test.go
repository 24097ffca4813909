package net_test

import (
	"fmt"
	"math"
	"slices"
	"strings"
	"testing"

	"hearsay/api"
	"hearsay/net"
)

// What the chapter says, worked out a second time by other means: all that happened is kept as it came, and nothing else. Which copies are under way, and what became of the bytes of each, is worked out of that each time; bytes are strings here.

type model struct {
	last int // the last number ahead of all that happened
	past []event
}

// event is something that happened to a copy; what its kind does not have is zero.
type event struct {
	kind           int
	num            int
	from, to, sent int    // made
	frame          string // made: the bytes as they were sent
	at             int    // altered; cut: how many are left
	by             string // altered
}

// Kinds of events.
const (
	made    = 1
	taken   = 2
	altered = 3
	cut     = 4
)

// seen is a copy as it is answered, its bytes as a string.
type seen struct {
	num, from, to int
	data          string
	sent          int
	bad           bool
}

func (s seen) String() string {
	bad := ""
	if s.bad {
		bad = ", Bad"
	}
	return fmt.Sprintf("{%d: %d to %d at %d, %d bytes %.12q%s}", s.num, s.from, s.to, s.sent, len(s.data), s.data, bad)
}

// of is the events of one kind and number.
func (m *model) of(kind, num int) []event {
	var all []event
	for _, e := range m.past {
		if e.kind == kind && e.num == num {
			all = append(all, e)
		}
	}
	return all
}

// copy is a copy that is under way, and whether there is one.
func (m *model) copy(num int) (seen, bool) {
	first := m.of(made, num)
	if len(first) == 0 || len(m.of(taken, num)) > 0 {
		return seen{}, false
	}
	e := first[0]
	s := seen{num: num, from: e.from, to: e.to, data: e.frame, sent: e.sent}
	for _, e := range m.of(altered, num) {
		s.data, s.bad = s.data[:e.at]+e.by+s.data[e.at+len(e.by):], true
	}
	for _, e := range m.of(cut, num) {
		s.data, s.bad = s.data[:e.at], true
	}
	return s, true
}

// copies is all that are under way, in the order in which they were made.
func (m *model) copies() []seen {
	var all []seen
	for _, e := range m.past {
		if s, ok := m.copy(e.num); ok && e.kind == made {
			all = append(all, s)
		}
	}
	return all
}

// make lays a copy more on the way.
func (m *model) make(e event) (int, api.Errno) {
	last := m.last
	for _, e := range m.past {
		last = max(last, e.num)
	}
	if last == 2147483647 {
		return 0, api.ErrFull
	}
	e.kind, e.num = made, last+1
	m.past = append(m.past, e)
	return e.num, api.OK
}

func (m *model) send(from, to int, data string, step int) (int, api.Errno) {
	sites := []int{1, 2, 3, 4, 5, 6, 7, 8, 9, 10, 11, 12, 13, 14, 15, 16}
	if !slices.Contains(sites, from) || !slices.Contains(sites, to) || from == to || step < 0 {
		return 0, api.ErrArg
	}
	return m.make(event{from: from, to: to, sent: step, frame: data})
}

func (m *model) take(num int) (seen, api.Errno) {
	s, ok := m.copy(num)
	if !ok {
		return seen{}, api.ErrNone
	}
	m.past = append(m.past, event{kind: taken, num: num})
	return s, api.OK
}

func (m *model) double(num int) (int, api.Errno) {
	if _, ok := m.copy(num); !ok {
		return 0, api.ErrNone
	}
	return m.make(m.of(made, num)[0])
}

// altersTo tells whether bytes of a text become others by laying some at a place; the places are tried one by one.
func altersTo(data string, at int, by string) bool {
	if by == "" || len(by) > 4 {
		return false
	}
	for place := range len(data) {
		if place == at && len(data[place:]) >= len(by) {
			return !strings.HasPrefix(data[place:], by)
		}
	}
	return false
}

func (m *model) alter(num, at int, by string) api.Errno {
	s, ok := m.copy(num)
	switch {
	case !ok:
		return api.ErrNone
	case !altersTo(s.data, at, by):
		return api.ErrArg
	case s.bad:
		return api.ErrExists
	}
	m.past = append(m.past, event{kind: altered, num: num, at: at, by: by})
	return api.OK
}

// cutsTo tells whether a text has a beginning of that size that is not all of it; the sizes are tried one by one.
func cutsTo(data string, size int) bool {
	for n := range len(data) {
		if n == size {
			return true
		}
	}
	return false
}

func (m *model) cut(num, size int) api.Errno {
	s, ok := m.copy(num)
	switch {
	case !ok:
		return api.ErrNone
	case !cutsTo(s.data, size):
		return api.ErrArg
	case s.bad:
		return api.ErrExists
	}
	m.past = append(m.past, event{kind: cut, num: num, at: size})
	return api.OK
}

// edges is numbers about each limit there is, and such whose low bits are those of others.
var edges = []int{
	math.MinInt, math.MinInt + 1, math.MinInt + 4, -1<<32 - 1, -1 << 32, -1<<32 + 1, -1 << 31, -257, -17, -16, -5, -4, -3, -2, -1, 0, 1, 2, 3, 4, 5, 6, 7, 8, 15, 16, 17, 18, 255, 256, 257, 258,
	1<<16 + 1, 1<<31 - 2, 1<<31 - 1, 1 << 31, 1<<31 + 1, 1 << 32, 1<<32 + 1, 1<<32 + 2, math.MaxInt - 5, math.MaxInt - 4, math.MaxInt - 3, math.MaxInt - 2, math.MaxInt - 1, math.MaxInt,
}

// both is a network, and the same worked out a second time.
type both struct {
	net   *net.Net
	model *model
}

// begun is a network without a copy.
func begun(t *testing.T) both {
	t.Helper()
	return both{net.New(), &model{}}
}

// behind is a network without a copy whose last number was last.
func behind(t *testing.T, last int) both {
	t.Helper()
	return both{net.Behind(last), &model{last: last}}
}

// send calls Send twice over, and holds what is answered against what it must be.
func (b both) send(t *testing.T, from, to int, data string, step int) (int, api.Errno) {
	t.Helper()
	given := roomy(data)
	num, err := b.net.Send(from, to, given, step)
	wantUnchanged(t, given, data)
	spoil(given)
	n, want := b.model.send(from, to, data, step)
	if num != n || err != want {
		t.Errorf("Send(%d, %d, %d bytes, %d): %d, error %d; want %d, error %d", from, to, len(data), step, num, int(err), n, int(want))
	}
	return num, err
}

// take calls Deliver or Drop twice over, and holds what is answered against what it must be.
func (b both) take(t *testing.T, num int, call func(*net.Net, int) (api.Copy, api.Errno)) (seen, api.Errno) {
	t.Helper()
	c, err := call(b.net, num)
	got := kept(c)
	s, want := b.model.take(num)
	if got != s || err != want {
		t.Errorf("taking %d: %v, error %d; want %v, error %d", num, got, int(err), s, int(want))
	}
	return got, err
}

func (b both) deliver(t *testing.T, num int) (seen, api.Errno) {
	t.Helper()
	return b.take(t, num, (*net.Net).Deliver)
}

func (b both) drop(t *testing.T, num int) (seen, api.Errno) {
	t.Helper()
	return b.take(t, num, (*net.Net).Drop)
}

// double calls Double twice over, and holds what is answered against what it must be.
func (b both) double(t *testing.T, num int) (int, api.Errno) {
	t.Helper()
	got, err := b.net.Double(num)
	if n, want := b.model.double(num); got != n || err != want {
		t.Errorf("Double(%d): %d, error %d; want %d, error %d", num, got, int(err), n, int(want))
	}
	return got, err
}

// alter calls Alter twice over, and holds what is answered against what it must be.
func (b both) alter(t *testing.T, num, at int, by string) api.Errno {
	t.Helper()
	given := roomy(by)
	err := b.net.Alter(num, at, given)
	wantUnchanged(t, given, by)
	spoil(given)
	wantErr(t, fmt.Sprintf("Alter(%d, %d, %.12q)", num, at, by), err, b.model.alter(num, at, by))
	return err
}

// cut calls Cut twice over, and holds what is answered against what it must be.
func (b both) cut(t *testing.T, num, size int) api.Errno {
	t.Helper()
	err := b.net.Cut(num, size)
	wantErr(t, fmt.Sprintf("Cut(%d, %d)", num, size), err, b.model.cut(num, size))
	return err
}

// mustSend sends a frame from 1 to 2, the number of which is written out.
func (b both) mustSend(t *testing.T, data string, want int) {
	t.Helper()
	if num, err := b.send(t, 1, 2, data, 7); num != want || err != api.OK {
		t.Errorf("Send: %d, error %d; want %d", num, int(err), want)
	}
}

// mustDouble calls Double, the answer of which is written out.
func (b both) mustDouble(t *testing.T, num, want int) {
	t.Helper()
	if n, err := b.double(t, num); n != want || err != api.OK {
		t.Errorf("Double(%d): %d, error %d; want %d", num, n, int(err), want)
	}
}

// wantNet holds all that is under way against what must be, twice, as asking changes nothing.
func (b both) wantNet(t *testing.T) {
	t.Helper()
	want := b.model.copies()
	for range 2 {
		if got := tell(b.net); !slices.Equal(got, want) {
			t.Errorf("under way: %v; want %v", got, want)
		}
	}
}

// wantCopies holds all that is under way against what is written out.
func (b both) wantCopies(t *testing.T, want ...seen) {
	t.Helper()
	if got := tell(b.net); !slices.Equal(got, want) {
		t.Errorf("under way: %v; want %v", got, want)
	}
	b.wantNet(t)
}

// tell is all that a network has under way; what it answered is spoilt.
func tell(n *net.Net) []seen {
	copies := n.Copies()
	all := look(copies)
	for _, c := range copies {
		spoil(c.Data)
	}
	for i := range copies[:cap(copies)] {
		copies[:cap(copies)][i] = api.Copy{Num: -77, From: -77, To: -77, Data: []byte("spoilt"), Sent: -77, Bad: true}
	}
	return all
}

// look is copies as they were answered, which stay as they are.
func look(copies []api.Copy) []seen {
	var all []seen
	for _, c := range copies {
		all = append(all, seen{c.Num, c.From, c.To, string(c.Data), c.Sent, c.Bad})
	}
	return all
}

// kept is a copy that was answered, the bytes of which are spoilt then.
func kept(c api.Copy) seen {
	s := look([]api.Copy{c})[0]
	spoil(c.Data)
	return s
}

// room is what stands behind the end of what is handed in.
const room = "room behind"

// roomy is bytes with room behind their end, which has something in it.
func roomy(data string) []byte { return []byte(data + room)[:len(data)] }

// wantUnchanged holds bytes with room against what they were.
func wantUnchanged(t *testing.T, given []byte, was string) {
	t.Helper()
	if all := given[:len(was)+len(room)]; string(all) != was+room {
		t.Errorf("what was handed in is now %.40q, with its room; it was %.20q", all, was)
	}
}

// spoil writes over bytes, as far as their room goes.
func spoil(data []byte) {
	data = data[:cap(data)]
	for i := range data {
		data[i] ^= 0xa5
	}
}

// wantErr holds an error against what it must be.
func wantErr(t *testing.T, about any, got, want api.Errno) {
	t.Helper()
	if got != want {
		t.Errorf("%v: error %d; want %d", about, int(got), int(want))
	}
}
