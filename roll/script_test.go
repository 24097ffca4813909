package roll_test

import (
	"math/rand"
	"slices"
	"testing"

	"hearsay/api"
	"hearsay/roll"
)

// inAllOrders hands on a list in all orders.
func inAllOrders(list []call, from int, take func([]call)) {
	if from == len(list) {
		take(slices.Clone(list))
		return
	}
	for i := from; i < len(list); i++ {
		list[from], list[i] = list[i], list[from]
		inAllOrders(list, from+1, take)
		list[from], list[i] = list[i], list[from]
	}
}

// TestOrders: P16.5: the calls in every order: the lists are the same; and the epoch is, if no Leave of a site comes ahead of its Join.
func TestOrders(t *testing.T) {
	calls := []call{join(1), join(3), leave(3), join(16), leave(16), leave(9), join(2)}
	orders, alike := 0, 0
	inAllOrders(calls, 0, func(order []call) {
		orders++
		r := roll.New()
		changes := 0
		for _, c := range order {
			if do(r, c) {
				changes++
			}
		}
		early := 0
		for _, site := range []int{3, 16} {
			if slices.Index(order, leave(site)) < slices.Index(order, join(site)) {
				early++
			}
		}
		if early == 0 {
			alike++
		}
		b := both{roll: r}
		b.wantLists(t, []int{1, 2}, []int{1, 2, 3, 16}, []int{3, 9, 16}, 6-2*early)
		if changes != 6-2*early {
			t.Errorf("%v: %d changes were told", order, changes)
		}
		if t.Failed() {
			t.Fatalf("%v", order)
		}
	})
	if orders != 5040 || alike != 1260 {
		t.Errorf("%d orders, of which %d without an early Leave", orders, alike)
	}
}

// TestTwice: P16.5: a call that was made already changes nothing, wherever it comes again in a row of calls.
func TestTwice(t *testing.T) {
	calls := []call{join(4), leave(4), join(5), leave(6), join(6)}
	inAllOrders(calls, 0, func(order []call) {
		for at := range order {
			b := begun(t, order[:at+1]...)
			before := tell(b.roll)
			for _, c := range order[:at+1] {
				b.must(t, c, false)
				wantTold(t, order, tell(b.roll), before)
			}
			for _, c := range order[at+1:] {
				if b.do(t, c) {
					b.must(t, c, false)
				}
			}
			b.wantRoll(t)
		}
		if t.Failed() {
			t.Fatalf("%v", order)
		}
	})
}

// TestFewCalls: P16.1 to P16.6: all rows of few calls, of sites and of others.
func TestFewCalls(t *testing.T) {
	calls := []call{join(1), leave(1), join(2), leave(2), join(16), leave(16), join(0), leave(17)}
	rows := [][]int{nil}
	for at := 0; at < len(rows); at++ {
		b := begun(t)
		for _, i := range rows[at] {
			b.do(t, calls[i])
		}
		b.wantRoll(t)
		if t.Failed() {
			t.Fatalf("%v", rows[at])
		}
		for i := range calls {
			if len(rows[at]) < 4 {
				rows = append(rows, append(slices.Clone(rows[at]), i))
			}
		}
	}
}

// byChance is a call of any site, seldom of a number that is none.
func byChance(chance *rand.Rand) call {
	c := call{chance.Intn(3) == 0, 1 + chance.Intn(16)}
	if chance.Intn(8) == 0 {
		c.site = edges[chance.Intn(len(edges))]
	}
	return c
}

// TestScripts: P16.1 to P16.6: calls by chance, each held against what it must do, with all that the roll tells behind each; and now and then a roll goes on as what Load made of it.
func TestScripts(t *testing.T) {
	chance := rand.New(rand.NewSource(16))
	seen := map[string]int{}
	for range 250 {
		b := begun(t)
		for range 40 {
			c := byChance(chance)
			what := "nothing new"
			if b.do(t, c) {
				what = map[bool]string{false: "came", true: "went"}[c.leave]
			}
			seen[what]++
			b.wantRoll(t)
			if chance.Intn(10) == 0 {
				b = b.again(t)
				seen["loaded"]++
			}
		}
		if t.Failed() {
			return
		}
	}
	for _, what := range []string{"came", "went", "nothing new", "loaded"} {
		if seen[what] < 500 {
			t.Errorf("%s: %d times alone", what, seen[what])
		}
	}
}

// TestLoadGoesOn: P16.6: a roll that was loaded answers as the first one behind any further calls too; both go on side by side.
func TestLoadGoesOn(t *testing.T) {
	chance := rand.New(rand.NewSource(166))
	for range 300 {
		first := begun(t)
		for range chance.Intn(30) {
			first.do(t, byChance(chance))
		}
		second := first.again(t)
		for range 20 {
			c := byChance(chance)
			if first.do(t, c) != second.do(t, c) {
				t.Errorf("%v is answered otherwise by what was loaded", c)
			}
			wantTold(t, c, tell(second.roll), tell(first.roll))
		}
		if t.Failed() {
			return
		}
	}
}

// TestLoadByChance: P16.4, P16.6: lists by chance of many sites, with every epoch about those that may be.
func TestLoadByChance(t *testing.T) {
	chance := rand.New(rand.NewSource(164))
	seen := map[api.Errno]int{}
	for range 100 {
		pick := func() []int { return those(func(int) bool { return chance.Intn(2) == 0 }) }
		joined, left := pick(), pick()
		for epoch := -2; epoch < 40; epoch++ {
			b, err := load(t, joined, left, epoch)
			seen[err]++
			if err == api.OK && chance.Intn(4) == 0 {
				b.wantRoll(t)
				for range 5 {
					b.do(t, byChance(chance))
				}
				b.wantRoll(t)
			}
		}
		if t.Failed() {
			return
		}
	}
	if seen[api.OK] < 300 || seen[api.ErrForm] < 300 || seen[api.ErrArg] < 150 {
		t.Errorf("%v", seen)
	}
}

// TestInTurns: W2: two rolls in turns, which know nothing of one another.
func TestInTurns(t *testing.T) {
	chance := rand.New(rand.NewSource(162))
	for range 40 {
		one, two := begun(t), begun(t, join(1), join(2), leave(3))
		for range 30 {
			b := one
			if chance.Intn(2) == 0 {
				b = two
			}
			b.do(t, byChance(chance))
			one.wantRoll(t)
			two.wantRoll(t)
		}
		if t.Failed() {
			return
		}
	}
}

// TestCopied: W8: a roll that is copied as a value goes on as the copy.
func TestCopied(t *testing.T) {
	for _, b := range []both{begun(t), begun(t, join(1), join(2), leave(3), leave(2))} {
		other := *b.roll
		b.roll = &other
		b.wantRoll(t)
		for _, c := range []call{join(3), join(4), leave(1), leave(4), join(16)} {
			b.do(t, c)
		}
		b.wantRoll(t)
	}
}
