package alarm_test

import (
	"math/rand"
	"slices"
	"testing"

	"hearsay/alarm"
	"hearsay/api"
)

// step does one call by chance twice over, and says which and how it ended. Ticks are about now, seldom anything.
func (b both) step(t *testing.T, chance *rand.Rand, keys int, now *int) string {
	t.Helper()
	*now = max(0, *now+chance.Intn(6)-1)
	at := *now
	if chance.Intn(10) == 0 {
		at = edges[chance.Intn(len(edges))]
	}
	key := chance.Intn(keys) - keys/2
	switch chance.Intn(7) {
	case 0, 1:
		switch b.set(t, key, at) {
		case api.OK:
			return "set"
		case api.ErrExists:
			return "there already"
		}
		return "refused"
	case 2:
		if b.reset(t, key, at) != api.OK {
			return "refused"
		}
		return "reset"
	case 3:
		if chance.Intn(2) > 0 {
			b.off(key)
		}
		return "off"
	default:
		switch len(b.due(t, at)) {
		case 0:
			return "none due"
		case 1:
			return "one due"
		}
		return "several due"
	}
}

// TestScripts: P15.1 to P15.6, W3: calls by chance, each held against what it must do, with all timers behind each; and in the end Next tells all of them one by one.
func TestScripts(t *testing.T) {
	chance := rand.New(rand.NewSource(15))
	seen := map[string]int{}
	for range 600 {
		least := 1 + chance.Intn(5)
		b := begun(t, least, least+chance.Intn(12))
		keys, now := 1+chance.Intn(9), chance.Intn(5)
		if chance.Intn(8) == 0 {
			now = api.MaxNum - 60
		}
		for range 60 {
			seen[b.step(t, chance, keys, &now)]++
			b.wantAlarm(t)
		}
		wantKeys(t, "one by one", oneByOne(b.twin(t), 2*api.MaxNum), b.model.keys())
		if t.Failed() {
			return
		}
	}
	for _, what := range []string{"set", "there already", "refused", "reset", "off", "none due", "one due", "several due"} {
		if seen[what] < 500 {
			t.Errorf("%s: %d times alone", what, seen[what])
		}
	}
}

// TestFewCalls: P15.2 to P15.6: all rows of few calls, right ones and wrong ones.
func TestFewCalls(t *testing.T) {
	set := func(key, now int) func(b both) { return func(b both) { b.set(t, key, now) } }
	reset := func(key, now int) func(b both) { return func(b both) { b.reset(t, key, now) } }
	off := func(key int) func(b both) { return func(b both) { b.off(key) } }
	due := func(now int) func(b both) { return func(b both) { b.due(t, now) } }
	calls := []func(b both){set(1, 0), set(2, 0), set(3, 1), set(1, -1), reset(1, 3), reset(2, 1), reset(3, 0), off(1), off(2), off(4), due(1), due(2), due(3), due(7), due(-1)}
	rows := [][]int{nil}
	for at := 0; at < len(rows); at++ {
		b := begun(t, 2, 3)
		for _, i := range rows[at] {
			calls[i](b)
		}
		b.wantAlarm(t)
		if t.Failed() {
			t.Fatalf("%v", rows[at])
		}
		for i := range calls {
			if len(rows[at]) < 4 {
				rows = append(rows, append(slices.Clone(rows[at]), i))
			}
		}
	}
}

// TestUnlikeKeys: P15.8: each of many timers in one alarm does what it does in an alarm of its own.
func TestUnlikeKeys(t *testing.T) {
	chance := rand.New(rand.NewSource(158))
	for range 60 {
		least := 1 + chance.Intn(4)
		most := least + chance.Intn(20)
		const keys = 40
		all, _ := alarm.New(least, most)
		var alone [keys]*alarm.Alarm
		for key := range alone {
			alone[key], _ = alarm.New(least, most)
		}
		for now := range 100 {
			for range 3 {
				key := chance.Intn(keys)
				switch chance.Intn(3) {
				case 0:
					wantErr(t, key, all.Set(key, now), alone[key].Set(key, now))
				case 1:
					wantErr(t, key, all.Reset(key, now), alone[key].Reset(key, now))
				default:
					all.Off(key)
					alone[key].Off(key)
				}
			}
			due := all.Due(now)
			var each []int
			for key := range alone {
				each = append(each, alone[key].Due(now)...)
				gap, at := all.Gap(key)
				if g, d := alone[key].Gap(key); gap != g || at != d {
					t.Fatalf("at %d: Gap(%d): %d, %d; alone %d, %d", now, key, gap, at, g, d)
				}
			}
			slices.Sort(due)
			wantKeys(t, now, due, each)
		}
		if t.Failed() {
			return
		}
	}
}

// TestMany: P15.3, P15.6: many timers, set and taken away in any order: they run out in theirs, each once.
func TestMany(t *testing.T) {
	chance := rand.New(rand.NewSource(153))
	const n = 20000
	a, _ := alarm.New(3, 4096)
	ticks := make([]int, n)
	for _, key := range chance.Perm(n) {
		ticks[key] = chance.Intn(500)
		wantErr(t, key, a.Set(key, ticks[key]), api.OK)
	}
	var want []int
	for key := range n {
		if chance.Intn(3) == 0 {
			a.Off(key)
		} else {
			want = append(want, key)
		}
	}
	slices.SortStableFunc(want, func(a, b int) int { return ticks[a] - ticks[b] })
	if a.Len() != len(want) {
		t.Errorf("Len: %d; want %d", a.Len(), len(want))
	}
	wantKeys(t, "Due(600)", a.Due(600), want)
	wantKeys(t, "Due(605)", a.Due(605), nil)
	slices.Sort(want)
	wantKeys(t, "Due(606)", a.Due(606), want)
	wantKeys(t, "one by one", oneByOne(a, 618), want)
	if a.Len() != 0 {
		t.Errorf("Len: %d; want none", a.Len())
	}
}

// TestInTurns: W2: two alarms in turns, which know nothing of one another.
func TestInTurns(t *testing.T) {
	chance := rand.New(rand.NewSource(152))
	for range 60 {
		one, two := begun(t, 1, 6), rich(t)
		now := 10
		for range 40 {
			if chance.Intn(2) == 0 {
				one.step(t, chance, 5, &now)
			} else {
				two.step(t, chance, 5, &now)
			}
			one.wantAlarm(t)
			two.wantAlarm(t)
		}
		if t.Failed() {
			return
		}
	}
}

// TestCopied: W8: an alarm that is copied as a value goes on as the copy.
func TestCopied(t *testing.T) {
	for _, b := range []both{rich(t), begun(t, 2, 9)} {
		other := *b.alarm
		b.alarm = &other
		b.wantAlarm(t)
		b.must(t, 5, 12)
		b.off(10)
		b.due(t, 15)
		wantErr(t, "Reset", b.reset(t, 20, 3), api.OK)
		b.wantAlarm(t)
	}
	zero := alarm.Alarm{}
	other := zero
	wantIdle(t, "a copy of a zero one", &other)
}
