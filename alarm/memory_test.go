package alarm_test

import (
	"runtime"
	"testing"

	"hearsay/alarm"
	"hearsay/api"
)

// TestAnswersApart: P15.8, W6: no two answers share anything, and none shares anything with what the alarm keeps.
func TestAnswersApart(t *testing.T) {
	b := rich(t)
	want := [][]int{{50, -40, -10, 10, 30, 40}, nil, {-10, 10, 50, -40, 20, 30, 40}, {20, -10, 10, 50, -40, 30, 40}}
	var all [][]int
	for _, now := range []int{14, 14, 30, api.MaxNum} {
		all = append(all, b.alarm.Due(now))
		b.model.due(now)
	}
	for i := range all {
		for k := i; k < len(all); k++ {
			wantKeys(t, []int{i, k}, all[k], want[k])
		}
		spoil(all[i])
		b.wantAlarm(t)
	}
	b.must(t, 60, 40)
	b.wantDue(t, api.MaxNum, 60)
	b.wantAlarm(t)
}

// inUse is how many bytes are held on to.
func inUse() int {
	var m runtime.MemStats
	runtime.GC()
	runtime.ReadMemStats(&m)
	return int(m.HeapAlloc)
}

// TestNotGrowing: P15.8: an alarm does not grow by being told much: keys that come and go, and ticks that are looked at, leave nothing behind.
func TestNotGrowing(t *testing.T) {
	before := inUse()
	a, _ := alarm.New(1, 3)
	a.Set(-1000, 0)
	for i := range 300000 {
		a.Set(i, i)
		a.Reset(i, i+1)
		a.Due(i)
		a.Off(i - 10)
	}
	if n := inUse() - before; a.Len() != 11 || n > 1<<18 {
		t.Errorf("%d bytes are kept by %d timers", n, a.Len())
	}
	runtime.KeepAlive(a)
}
