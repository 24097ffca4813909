package alarm_test

import (
	"math"
	"slices"
	"testing"

	"hearsay/alarm"
	"hearsay/api"
)

// TestExamples: all rows of the chapter's examples.
func TestExamples(t *testing.T) {
	for _, x := range [][2]int{{0, 5}, {3, 2}, {1, 4097}} {
		a, err := alarm.New(x[0], x[1])
		wantErr(t, x, err, api.ErrArg)
		if a != nil {
			t.Errorf("New%v: an Alarm", x)
		}
	}
	b := begun(t, 2, 7)
	b.wantNext(t, 0, 0, 0)
	b.wantDue(t, 9)
	wantErr(t, "Set(5, 10)", b.set(t, 5, 10), api.OK)
	wantErr(t, "Set(5, 11)", b.set(t, 5, 11), api.ErrExists)
	wantErr(t, "Set(-3, 10)", b.set(t, -3, 10), api.OK)
	wantErr(t, "Set(1, -1)", b.set(t, 1, -1), api.ErrArg)
	b.wantNext(t, -3, 12, 2)
	b.wantDue(t, 11)
	b.wantDue(t, 13, -3, 5)
	b.wantGap(t, 5, 4, 17)
	b.wantDue(t, 20, -3, 5)
	b.wantGap(t, -3, 7, 27)
	b.wantDue(t, 27, -3, 5)
	b.wantGap(t, 5, 7, 34)
	wantErr(t, "Reset(5, 30)", b.reset(t, 5, 30), api.OK)
	b.wantGap(t, 5, 2, 32)
	b.off(-3)
	b.wantGap(t, -3, 0, 0)
	b.wantNext(t, 5, 32, 1)
	wantErr(t, "Set(9, 2147483647)", b.set(t, 9, 2147483647), api.OK)
	b.wantGap(t, 9, 2, 2147483649)
	b.wantDue(t, 2147483647, 5)
	b.wantAlarm(t)
	zero := both{&alarm.Alarm{}, &model{}}
	wantErr(t, "a zero Alarm: Set(1, 1)", zero.set(t, 1, 1), api.ErrArg)
	zero.wantNext(t, 0, 0, 0)
}

// TestNew: P15.1, W3: leasts and mosts of all manners.
func TestNew(t *testing.T) {
	for _, x := range []struct {
		least, most int
		want        api.Errno
	}{
		{1, 1, api.OK}, {1, 2, api.OK}, {2, 1, api.ErrArg}, {2, 2, api.OK}, {0, 0, api.ErrArg}, {0, 1, api.ErrArg}, {-1, 1, api.ErrArg}, {-1, -1, api.ErrArg},
		{1, 4096, api.OK}, {4096, 4096, api.OK}, {4095, 4096, api.OK}, {4096, 4095, api.ErrArg}, {1, 4097, api.ErrArg}, {4097, 4097, api.ErrArg}, {4096, 4097, api.ErrArg},
		{math.MinInt, math.MaxInt, api.ErrArg}, {math.MinInt, 5, api.ErrArg}, {1, math.MaxInt, api.ErrArg}, {math.MaxInt, math.MaxInt, api.ErrArg}, {math.MaxInt, math.MinInt, api.ErrArg},
		{1, math.MinInt, api.ErrArg}, {math.MinInt, math.MinInt, api.ErrArg}, {1, 1<<32 + 1, api.ErrArg}, {1<<32 + 1, 1<<32 + 2, api.ErrArg},
	} {
		_, err := alarm.New(x.least, x.most)
		wantErr(t, x, err, x.want)
	}
	for _, least := range edges {
		for _, most := range edges {
			a, err := alarm.New(least, most)
			wantErr(t, []int{least, most}, err, wantNew(least, most))
			if (a != nil) != (err == api.OK) {
				t.Errorf("New(%d, %d): %v beside the error %d", least, most, a, int(err))
			}
			if err == api.OK {
				both{a, &model{least: least, most: most}}.wantAlarm(t)
				wantKeys(t, "Due of a new one", a.Due(api.MaxNum), nil)
			}
		}
	}
}

// TestSet: P15.2, P15.4, W3, W4: keys and ticks of all manners, of a key that has no timer and of one that has, whose first error shows.
func TestSet(t *testing.T) {
	for _, key := range edges {
		for _, now := range edges {
			b := begun(t, 3, 100)
			b.must(t, 77, 50)
			want := api.OK
			if now < 0 || now > 2147483647 {
				want = api.ErrArg
			}
			wantErr(t, []int{key, now}, b.set(t, key, now), want)
			b.wantAlarm(t)
			if want == api.OK {
				b.wantGap(t, key, 3, now+3)
				want = api.ErrExists
			}
			wantErr(t, []int{key, now}, b.set(t, key, now), want)
			b.wantAlarm(t)
			if want == api.ErrArg {
				b.wantNext(t, 77, 53, 1)
				b.must(t, key, 5)
			}
			// Both errors apply: that of the tick is told.
			wantErr(t, "no tick", b.set(t, key, -1), api.ErrArg)
			wantErr(t, "no tick", b.set(t, key, api.MaxNum+1), api.ErrArg)
			wantErr(t, "a timer", b.set(t, key, 0), api.ErrExists)
			wantErr(t, "a timer", b.set(t, 77, api.MaxNum), api.ErrExists)
			b.wantAlarm(t)
			b.wantGap(t, 77, 3, 53)
		}
	}
}

// TestReset: P15.2, W3: Reset of keys with a timer and without one; wherever the timer stood, and for how long it ran.
func TestReset(t *testing.T) {
	for _, key := range edges {
		for _, now := range edges {
			b := rich(t)
			before := b.alarm.Len()
			err := b.reset(t, key, now)
			b.wantAlarm(t)
			if !tick(now) {
				wantErr(t, []int{key, now}, err, api.ErrArg)
				b.wantGap(t, key, 0, 0)
				continue
			}
			wantErr(t, []int{key, now}, err, api.OK)
			b.wantGap(t, key, 2, now+2)
			if b.alarm.Len() != before+1 {
				t.Errorf("Reset(%d, %d): Len %d behind %d", key, now, b.alarm.Len(), before)
			}
			b.due(t, min(now+5, api.MaxNum))
			wantErr(t, "again", b.reset(t, key, 7), api.OK)
			b.wantGap(t, key, 2, 9)
			b.wantAlarm(t)
		}
	}
	for _, key := range rich(t).model.keys() {
		for now := range 40 {
			b := rich(t)
			wantErr(t, []int{key, now}, b.reset(t, key, now), api.OK)
			b.wantGap(t, key, 2, now+2)
			b.wantAlarm(t)
			wantErr(t, "no tick", b.reset(t, key, -1), api.ErrArg)
			wantErr(t, "no tick", b.reset(t, key, math.MinInt), api.ErrArg)
			wantErr(t, "no tick", b.reset(t, key, math.MaxInt), api.ErrArg)
			b.wantGap(t, key, 2, now+2)
			b.due(t, 25)
			b.wantAlarm(t)
		}
	}
}

// rich is an alarm with timers of several gaps, some of which run out at one tick.
func rich(t *testing.T) both {
	t.Helper()
	b := begun(t, 2, 9)
	b.must(t, 40, 0)
	b.due(t, 2)
	b.due(t, 6)
	b.must(t, -40, 8)
	b.must(t, 30, 8)
	b.due(t, 10)
	b.must(t, 10, 12)
	b.must(t, -10, 12)
	b.must(t, 20, 20)
	b.must(t, 50, 11)
	b.wantAlarm(t)
	wantKeys(t, "the keys", b.model.keys(), []int{50, -40, -10, 10, 30, 40, 20})
	b.wantNext(t, 50, 13, 7)
	return b
}

// TestOff: P15.2, P15.4: each of several timers is taken away: the first one, the last one, those in between; again; and is set anew then.
func TestOff(t *testing.T) {
	for _, key := range rich(t).model.keys() {
		b := rich(t)
		b.off(key)
		b.wantGap(t, key, 0, 0)
		b.wantAlarm(t)
		if b.alarm.Len() != 6 {
			t.Errorf("Off(%d): Len %d", key, b.alarm.Len())
		}
		b.off(key)
		b.wantAlarm(t)
		wantKeys(t, []any{"one by one, without", key}, oneByOne(b.twin(t), math.MaxInt), b.model.keys())
		b.must(t, key, 9)
		b.wantGap(t, key, 2, 11)
		b.wantAlarm(t)
		b.due(t, 16)
		b.wantAlarm(t)
	}
	for _, key := range edges {
		b := rich(t)
		b.off(key)
		b.wantNext(t, 50, 13, 7)
		b.wantAlarm(t)
	}
}

// TestOffAll: P15.2, P15.4: all timers are taken away, in every order of few; then there is none, and all may be set again.
func TestOffAll(t *testing.T) {
	for _, order := range orders(5) {
		b := begun(t, 1, 4)
		for i := range 5 {
			b.must(t, 10*i, 3*(i*i%5)) // the ticks 0, 3, 12, 12, 3
		}
		b.due(t, 4)
		for _, i := range order {
			b.off(10 * i)
			b.wantAlarm(t)
		}
		b.wantNext(t, 0, 0, 0)
		b.wantDue(t, api.MaxNum)
		for _, i := range order {
			b.must(t, 10*i, 7)
		}
		b.wantNext(t, 0, 8, 5)
		b.wantDue(t, 8, 0, 10, 20, 30, 40)
		b.wantAlarm(t)
	}
}

// orders is all orders of the numbers below n.
func orders(n int) [][]int {
	if n == 0 {
		return [][]int{nil}
	}
	var all [][]int
	for _, row := range orders(n - 1) {
		for at := range n {
			all = append(all, slices.Insert(slices.Clone(row), at, n-1))
		}
	}
	return all
}

// TestDue: P15.3, P15.6, W3: ticks that are none; ahead of all timers, at the tick of one, behind some, behind all, at MaxNum; again, and at a tick ahead of the one before; each is what Next tells one by one.
func TestDue(t *testing.T) {
	ticks := slices.Clone(edges)
	for now := range 40 {
		ticks = append(ticks, now)
	}
	for _, now := range ticks {
		for _, then := range ticks {
			b := rich(t)
			for _, now := range []int{now, then} {
				want := oneByOne(b.twin(t), now)
				if !tick(now) {
					want = nil
				}
				wantKeys(t, []any{"one by one", now}, b.due(t, now), want)
				b.wantAlarm(t)
			}
			if t.Failed() {
				t.Fatalf("Due(%d), then Due(%d)", now, then)
			}
		}
	}
}

// TestDueWritten: P15.3: the same written out.
func TestDueWritten(t *testing.T) {
	b := rich(t)
	b.wantDue(t, -1)
	b.wantDue(t, api.MaxNum+1)
	b.wantDue(t, math.MinInt)
	b.wantDue(t, math.MaxInt)
	b.wantDue(t, 0)
	b.wantDue(t, 12)
	b.wantNext(t, 50, 13, 7)
	b.wantDue(t, 13, 50)
	b.wantGap(t, 50, 4, 17)
	b.wantDue(t, 13)
	b.wantDue(t, 14, -40, -10, 10, 30, 40)
	b.wantGap(t, -40, 8, 22)
	b.wantGap(t, -10, 4, 18)
	b.wantGap(t, 10, 4, 18)
	b.wantGap(t, 30, 8, 22)
	b.wantGap(t, 40, 9, 23)
	b.wantDue(t, 14)
	b.wantDue(t, 3)
	b.wantGap(t, 20, 2, 22)
	b.wantDue(t, 30, 50, -10, 10, -40, 20, 30, 40)
	b.wantGap(t, 50, 8, 38)
	b.wantGap(t, 20, 4, 34)
	b.wantGap(t, 40, 9, 39)
	b.wantDue(t, api.MaxNum, 20, -10, 10, 50, -40, 30, 40)
	b.wantGap(t, 50, 9, api.MaxNum+9)
	b.wantGap(t, 20, 8, api.MaxNum+8)
	b.wantDue(t, api.MaxNum)
	b.wantNext(t, 20, api.MaxNum+8, 7)
	b.wantAlarm(t)
}

// TestOneTick: P15.3, P15.4: of timers that run out at one tick the least key comes first, in whatever order they were set; keys as small and as great as an int can be too.
func TestOneTick(t *testing.T) {
	keys := []int{math.MinInt, -1, 0, 1, math.MaxInt}
	for _, order := range orders(len(keys)) {
		b := begun(t, 2, 3)
		for _, i := range order {
			b.must(t, keys[i], 8)
		}
		b.wantNext(t, math.MinInt, 10, 5)
		b.wantDue(t, 9)
		b.wantDue(t, 10, keys...)
		b.wantDue(t, 13, keys...)
		wantErr(t, "Reset", b.reset(t, keys[order[0]], 14), api.OK)
		b.wantDue(t, 16, keys...)
		b.wantAlarm(t)
	}

	// Ticks come ahead of keys.
	b := begun(t, 1, 1)
	for key := range 50 {
		b.must(t, key, 100-key)
	}
	for key := range 50 {
		b.wantNext(t, 49-key, 52+key, 50-key)
		b.off(49 - key)
	}
	b.wantNext(t, 0, 0, 0)
}

// TestGrowing: P15.3, P15.6, P15.7: gaps that meet the most just, that would pass it, and that stand at it from the first on; each timer is looked at just when it runs out.
func TestGrowing(t *testing.T) {
	for _, x := range []struct {
		least, most int
		gaps        []int
	}{
		{1, 1, []int{1, 1, 1, 1}}, {1, 2, []int{1, 2, 2, 2}}, {1, 3, []int{1, 2, 3, 3}}, {1, 4, []int{1, 2, 4, 4}}, {2, 3, []int{2, 3, 3}}, {2, 4, []int{2, 4, 4}}, {2, 5, []int{2, 4, 5, 5}}, {2, 7, []int{2, 4, 7, 7}},
		{3, 100, []int{3, 6, 12, 24, 48, 96, 100, 100}}, {5, 5, []int{5, 5, 5}}, {7, 13, []int{7, 13, 13}}, {7, 14, []int{7, 14, 14}}, {7, 15, []int{7, 14, 15, 15}},
		{1, 4096, []int{1, 2, 4, 8, 16, 32, 64, 128, 256, 512, 1024, 2048, 4096, 4096, 4096}}, {3, 4096, []int{3, 6, 12, 24, 48, 96, 192, 384, 768, 1536, 3072, 4096, 4096}},
		{2048, 4096, []int{2048, 4096, 4096}}, {2049, 4096, []int{2049, 4096, 4096}}, {4095, 4096, []int{4095, 4096, 4096}}, {4096, 4096, []int{4096, 4096}}, {2047, 4095, []int{2047, 4094, 4095, 4095}},
	} {
		for _, from := range []int{0, 1, 1000, api.MaxNum - 1<<20} {
			b := begun(t, x.least, x.most)
			b.must(t, 6, from)
			now := from
			for _, gap := range x.gaps {
				b.wantGap(t, 6, gap, now+gap)
				now += gap
				b.wantDue(t, now-1)
				b.wantDue(t, now, 6)
			}
			b.wantAlarm(t)
		}
	}
}

// TestAtEachTick: P15.7: a timer that is looked at at each tick, for many ticks.
func TestAtEachTick(t *testing.T) {
	for _, x := range [][2]int{{1, 1}, {1, 2}, {1, 7}, {2, 7}, {3, 50}, {5, 5}, {1, 4096}, {4000, 4096}} {
		for _, from := range []int{0, 3, api.MaxNum - 20000} {
			least, most := x[0], x[1]
			a, _ := alarm.New(least, most)
			wantErr(t, x, a.Set(-9, from), api.OK)
			at, gap := from+least, least
			for now := from; now < from+20000; now++ {
				keys := a.Due(now)
				if now < at {
					wantKeys(t, []any{x, "Due", now}, keys, nil)
					continue
				}
				wantKeys(t, []any{x, "Due", now}, keys, []int{-9})
				gap = int(min(int64(gap)+int64(gap), int64(most)))
				at += gap
				if g, d := a.Gap(-9); g != gap || d != at {
					t.Fatalf("%v: at %d Gap: %d, %d; want %d, %d", x, now, g, d, gap, at)
				}
			}
			if t.Failed() {
				return
			}
		}
	}
}

// TestAboveMaxNum: P15.2, P15.3, W10: timers that run out above MaxNum: no tick reaches them, and nothing wraps.
func TestAboveMaxNum(t *testing.T) {
	b := begun(t, 1, 4096)
	b.must(t, 1, api.MaxNum)
	b.must(t, 2, api.MaxNum-1)
	b.must(t, 3, api.MaxNum-2)
	b.wantGap(t, 1, 1, 1<<31)
	b.wantNext(t, 3, api.MaxNum-1, 3)
	b.wantDue(t, api.MaxNum, 3, 2)
	b.wantDue(t, api.MaxNum)
	b.wantDue(t, 1<<31)
	b.wantNext(t, 1, 1<<31, 3)
	b.wantGap(t, 2, 2, api.MaxNum+2)
	wantErr(t, "Reset", b.reset(t, 1, 0), api.OK)
	b.wantDue(t, api.MaxNum, 1)
	b.wantAlarm(t)
	b = begun(t, 4096, 4096)
	b.must(t, 1, api.MaxNum)
	b.wantGap(t, 1, 4096, api.MaxNum+4096)
	b.wantDue(t, api.MaxNum)
	b.off(1)
	b.wantNext(t, 0, 0, 0)
}

// wantIdle holds that an alarm has no timer and sets none, whatever is asked.
func wantIdle(t *testing.T, what string, a *alarm.Alarm) {
	t.Helper()
	for _, key := range edges {
		for _, now := range edges {
			wantErr(t, []any{what, "Set", key, now}, a.Set(key, now), api.ErrArg)
			wantErr(t, []any{what, "Reset", key, now}, a.Reset(key, now), api.ErrArg)
			if len(a.Due(now)) > 0 {
				t.Errorf("%s: Due(%d): a key", what, now)
			}
		}
		a.Off(key)
		if gap, due := a.Gap(key); gap != 0 || due != 0 {
			t.Errorf("%s: Gap(%d): %d, %d", what, key, gap, due)
		}
		if key, due, ok := a.Next(); key != 0 || due != 0 || ok || a.Len() != 0 {
			t.Errorf("%s: Next: %d, %d, %v; Len %d", what, key, due, ok, a.Len())
		}
	}
}

// TestNilAndZero: P15.2, P15.5, W1, W8: a nil and a zero Alarm.
func TestNilAndZero(t *testing.T) {
	wantIdle(t, "nil", nil)
	wantIdle(t, "zero", &alarm.Alarm{})
	wantIdle(t, "zero", new(alarm.Alarm))
}
