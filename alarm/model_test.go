package alarm_test

import (
	"fmt"
	"math"
	"slices"
	"testing"

	"hearsay/alarm"
	"hearsay/api"
)

// What the chapter says, worked out a second time by other means: all that happened is kept as it came, and nothing else. A key's timer is worked out of it each time: from the last call that set it on, each tick that was looked at and is not ahead of its running out makes it run once more. So no key's timer knows of another one's.

type model struct {
	least, most int
	past        []event
}

// Kinds of events.
const (
	wasSet = iota // by Set or by Reset
	wasOff
	wasDue
)

// event is something that happened to a key, or to all of them, at a tick.
type event struct {
	kind, key, now int
}

// timer is what runs for a key; a gap of 0 is none.
type timer struct {
	gap, due int
}

// tick tells whether a number is a tick.
func tick(now int) bool { return now >= 0 && now < 1<<31 }

func wantNew(least, most int) api.Errno {
	if 1 <= least && least <= most && most <= 4096 {
		return api.OK
	}
	return api.ErrArg
}

// timerOf is the timer of a key.
func (m *model) timerOf(key int) timer {
	var t timer
	for _, e := range m.past {
		switch {
		case e.kind == wasSet && e.key == key:
			t = timer{m.least, e.now + m.least}
		case e.kind == wasOff && e.key == key:
			t = timer{}
		case e.kind == wasDue && t.gap > 0 && e.now >= t.due:
			t.gap += min(t.gap, m.most-t.gap)
			t.due = e.now + t.gap
		}
	}
	return t
}

// keys is the keys that have a timer, by the ticks at which they run out, and these by the keys.
func (m *model) keys() []int {
	var all []int
	for _, e := range m.past {
		if e.kind == wasSet && !slices.Contains(all, e.key) && m.timerOf(e.key).gap > 0 {
			all = append(all, e.key)
		}
	}
	slices.Sort(all)
	slices.SortStableFunc(all, func(a, b int) int { return m.timerOf(a).due - m.timerOf(b).due })
	return all
}

func (m *model) set(key, now int) api.Errno {
	if tick(now) && m.timerOf(key).gap > 0 {
		return api.ErrExists
	}
	return m.reset(key, now)
}

func (m *model) reset(key, now int) api.Errno {
	if !tick(now) || m.least == 0 {
		return api.ErrArg
	}
	m.past = append(m.past, event{wasSet, key, now})
	return api.OK
}

func (m *model) off(key int) { m.past = append(m.past, event{kind: wasOff, key: key}) }

func (m *model) due(now int) []int {
	if !tick(now) {
		return nil
	}
	var out []int
	for _, key := range m.keys() {
		if m.timerOf(key).due <= now {
			out = append(out, key)
		}
	}
	m.past = append(m.past, event{kind: wasDue, now: now})
	return out
}

// edges is numbers about each limit there is.
var edges = []int{
	math.MinInt, math.MinInt + 1, -1 << 32, -api.MaxNum - 1, -api.MaxGap, -2, -1, 0, 1, 2, 3, api.MaxGap - 1, api.MaxGap, api.MaxGap + 1, 2 * api.MaxGap,
	api.MaxNum - api.MaxGap, api.MaxNum - 1, api.MaxNum, api.MaxNum + 1, 1 << 32, 1<<32 + 1, math.MaxInt - 1, math.MaxInt,
}

// both is an alarm, and the same worked out a second time.
type both struct {
	alarm *alarm.Alarm
	model *model
}

// begun is an alarm without a timer.
func begun(t *testing.T, least, most int) both {
	t.Helper()
	a, err := alarm.New(least, most)
	if err != api.OK || a == nil {
		t.Fatalf("New(%d, %d): %v, error %d", least, most, a, int(err))
	}
	return both{a, &model{least: least, most: most}}
}

// twin is another alarm to which the same happened.
func (b both) twin(t *testing.T) *alarm.Alarm {
	t.Helper()
	a, _ := alarm.New(b.model.least, b.model.most)
	for _, e := range b.model.past {
		switch e.kind {
		case wasSet:
			wantErr(t, e, a.Reset(e.key, e.now), api.OK)
		case wasOff:
			a.Off(e.key)
		case wasDue:
			a.Due(e.now)
		}
	}
	return a
}

// set sets a timer twice over, holds what is answered against what it must be, and says it.
func (b both) set(t *testing.T, key, now int) api.Errno {
	t.Helper()
	err := b.alarm.Set(key, now)
	wantErr(t, []any{"Set", key, now}, err, b.model.set(key, now))
	return err
}

// reset is the same of Reset.
func (b both) reset(t *testing.T, key, now int) api.Errno {
	t.Helper()
	err := b.alarm.Reset(key, now)
	wantErr(t, []any{"Reset", key, now}, err, b.model.reset(key, now))
	return err
}

func (b both) off(key int) {
	b.alarm.Off(key)
	b.model.off(key)
}

// due looks at a tick twice over, holds what is answered against what it must be and against P15.6, spoils it, and says it.
func (b both) due(t *testing.T, now int) []int {
	t.Helper()
	got := kept(b.alarm.Due(now))
	wantKeys(t, []any{"Due", now}, got, b.model.due(now))
	for _, key := range got {
		if _, due := b.alarm.Gap(key); due <= now {
			t.Errorf("Due(%d): %d runs out at %d behind it", now, key, due)
		}
	}
	if _, due, ok := b.alarm.Next(); tick(now) && ok && due <= now {
		t.Errorf("Due(%d): the first one runs out at %d behind it", now, due)
	}
	return got
}

// oneByOne is what Next tells of an alarm that run out at now or ahead of it, each being taken away then.
func oneByOne(a *alarm.Alarm, now int) []int {
	var keys []int
	for key, due, ok := a.Next(); ok && due <= now; key, due, ok = a.Next() {
		keys = append(keys, key)
		a.Off(key)
		if len(keys) > 1<<20 {
			break
		}
	}
	return keys
}

// must sets a timer that may not be refused.
func (b both) must(t *testing.T, key, now int) {
	t.Helper()
	wantErr(t, []any{"Set", key, now}, b.set(t, key, now), api.OK)
}

// wantDue holds which keys are due at a tick against what is written out.
func (b both) wantDue(t *testing.T, now int, want ...int) {
	t.Helper()
	wantKeys(t, []any{"Due", now}, b.due(t, now), want)
}

// wantGap holds a key's timer against what is written out.
func (b both) wantGap(t *testing.T, key, gap, due int) {
	t.Helper()
	if g, d := b.alarm.Gap(key); g != gap || d != due {
		t.Errorf("Gap(%d): %d, %d; want %d, %d", key, g, d, gap, due)
	}
}

// wantNext holds the first timer, and how many there are, against what is written out.
func (b both) wantNext(t *testing.T, key, due, n int) {
	t.Helper()
	if k, d, ok := b.alarm.Next(); k != key || d != due || ok != (n > 0) {
		t.Errorf("Next: %d, %d, %v; want %d, %d, %v", k, d, ok, key, due, n > 0)
	}
	if b.alarm.Len() != n {
		t.Errorf("Len: %d; want %d", b.alarm.Len(), n)
	}
}

// wantAlarm holds what an alarm tells, of all keys that it was ever told of and of some others, against what it must be and against P15.6.
func (b both) wantAlarm(t *testing.T) {
	t.Helper()
	keys := b.model.keys()
	for _, e := range b.model.past {
		b.wantTimer(t, e.key)
	}
	for _, key := range edges {
		b.wantTimer(t, key)
	}
	if len(keys) == 0 {
		b.wantNext(t, 0, 0, 0)
		return
	}
	b.wantNext(t, keys[0], b.model.timerOf(keys[0]).due, len(keys))
}

// wantTimer holds what an alarm tells of a key against what it must be, and its gap against the least and the most.
func (b both) wantTimer(t *testing.T, key int) {
	t.Helper()
	want := b.model.timerOf(key)
	b.wantGap(t, key, want.gap, want.due)
	if gap, _ := b.alarm.Gap(key); want.gap > 0 && (gap < b.model.least || gap > b.model.most) {
		t.Errorf("%d has the gap %d; it may be %d to %d", key, gap, b.model.least, b.model.most)
	}
}

// kept is a list that was answered, which is spoilt then, as far as its room goes.
func kept(list []int) []int {
	was := slices.Clone(list)
	spoil(list)
	return was
}

func spoil(list []int) {
	list = list[:cap(list)]
	for i := range list {
		list[i] = -77
	}
}

// wantErr holds an error against what it must be.
func wantErr(t *testing.T, about any, got, want api.Errno) {
	t.Helper()
	if got != want {
		t.Errorf("%v: error %d; want %d", about, int(got), int(want))
	}
}

// wantKeys holds a list of keys against what it must be.
func wantKeys(t *testing.T, about any, got, want []int) {
	t.Helper()
	if !slices.Equal(got, want) {
		t.Errorf("%v: %s; want %s", about, told(got), told(want))
	}
}

// told is the first ones of a list, which may be too long to be told.
func told(list []int) string {
	return fmt.Sprint(len(list), " keys: ", list[:min(len(list), 20)])
}
