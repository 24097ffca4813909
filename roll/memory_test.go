package roll_test

import (
	"runtime"
	"slices"
	"testing"

	"hearsay/api"
	"hearsay/roll"
)

// TestAnswersApart: P16.7, W6: no two answers share anything, and none shares anything with what the roll keeps; lists that are alike too.
func TestAnswersApart(t *testing.T) {
	for _, calls := range [][]call{
		{join(1), join(2), leave(3), join(4), leave(4)},
		{join(1), join(2), join(3)},
		{leave(1), join(1), leave(16), join(16)},
	} {
		b := begun(t, calls...)
		ask := func() [][]int { return [][]int{b.roll.Members(), b.roll.Joined(), b.roll.Left()} }
		want := [][]int{b.model.members(), b.model.joined(), b.model.left()}
		all, want := append(ask(), ask()...), append(want, want...)
		for i := range all {
			for k := i; k < len(all); k++ {
				if !slices.Equal(all[k], want[k]) {
					t.Errorf("%d behind spoiling %d: %v; want %v", k, i-1, all[k], want[k])
				}
			}
			spoil(all[i])
			b.wantRoll(t)
		}

		// What was answered earlier does not go on with the roll.
		earlier := ask()
		for _, site := range sites() {
			b.do(t, join(site))
			b.do(t, leave(site))
		}
		for i, list := range earlier {
			if !slices.Equal(list, want[i]) {
				t.Errorf("an earlier answer is now %v; it was %v", list, want[i])
			}
		}
		b.wantRoll(t)
	}
}

// TestGivenApart: P16.7, W6: what was handed in has nothing to do with what is kept or answered: one list as joined and as left, of two rolls.
func TestGivenApart(t *testing.T) {
	list := roomy([]int{1, 5, 16})
	one, err := roll.Load(list, list, 2)
	wantErr(t, "one", err, api.OK)
	two, err := roll.Load(list, list[:2], 1)
	wantErr(t, "two", err, api.OK)
	first, second := both{one, &model{[]call{join(1), leave(1), leave(5), join(5), leave(16), join(16)}}}, both{two, &model{[]call{leave(1), join(1), leave(5), join(5), join(16)}}}
	lists := [][]int{one.Joined(), one.Left(), two.Joined()}
	wantUnchanged(t, list, []int{1, 5, 16})
	spoil(list)
	first.wantRoll(t)
	second.wantRoll(t)
	for _, got := range lists {
		if !slices.Equal(got, []int{1, 5, 16}) {
			t.Errorf("an answer is now %v", got)
		}
		spoil(got)
	}
	first.do(t, join(2))
	second.do(t, leave(16))
	first.wantRoll(t)
	second.wantRoll(t)
	wantUnchangedSpoilt(t, list)
}

// wantUnchangedSpoilt holds a list that was spoilt against what that made of it.
func wantUnchangedSpoilt(t *testing.T, list []int) {
	t.Helper()
	for _, n := range list[:cap(list)] {
		if n != -77 {
			t.Errorf("what was handed in is now %v", list[:cap(list)])
		}
	}
}

// inUse is how many bytes are held on to.
func inUse() int {
	var m runtime.MemStats
	runtime.GC()
	runtime.ReadMemStats(&m)
	return int(m.HeapAlloc)
}

// TestNotKept: P16.7, W6: no roll holds on to what was handed in; and a roll does not grow by being told much.
func TestNotKept(t *testing.T) {
	big := func(list ...int) []int { return append(make([]int, 0, 1<<16), list...) }
	var rolls []*roll.Roll
	before := inUse()
	for range 20 {
		for _, epoch := range []int{2, 4, 6} {
			r, _ := roll.Load(big(1, 2, 3), big(3, 16), epoch)
			rolls = append(rolls, r)
		}
		r, _ := roll.Load(big(), big(), 0)
		rolls = append(rolls, r)
	}
	r := roll.New()
	for i := range 300000 {
		r.Join(i % 20)
		r.Leave(i % 7)
	}
	if n := inUse() - before; n > 1<<18 {
		t.Errorf("%d bytes are kept", n)
	}
	runtime.KeepAlive(rolls)
	runtime.KeepAlive(r)
}
