package editor_test

import (
	"math"
	"testing"

	"hearsay/api"
)

// TestMark: P19.5, W1: each unit, and each that is none, at each number: what is refused uses no number up.
func TestMark(t *testing.T) {
	for _, text := range texts {
		b := found(t, config, text)
		for _, unit := range anyUnits {
			for _, n := range numbers(text) {
				last := b.m.last
				mark, err := b.mark(t, unit, n)
				want, spotErr := spotOf(text, unit, n)
				wantErr(t, "Mark", err, spotErr)
				if err != api.OK {
					wantZero(t, "Mark", mark, err, spotErr)
					continue
				}
				if where, err := b.e.Where(mark); where != want || err != api.OK || mark != last+1 {
					t.Errorf("Mark(%d, %d) of %q: number %d at %+v; want %d at %+v", unit, n, text, mark, where, last+1, want)
				}
				if mark > 8 {
					b.unmark(t, mark-8)
				}
			}
		}
	}
}

// TestNumbers: P19.5: anchors are numbered 1, 2, 3, each number once, whichever were taken away, and wherever they stand.
func TestNumbers(t *testing.T) {
	b := found(t, config, "ab")
	for want := 1; want <= 30; want++ {
		mark, err := b.mark(t, api.UnitRune, want%3)
		if mark != want || err != api.OK {
			t.Fatalf("Mark: %d, error %d; want %d", mark, int(err), want)
		}
		if want%2 == 0 {
			wantErr(t, "Unmark of the newest", b.unmark(t, want), api.OK)
		}
		if want%6 == 0 {
			wantErr(t, "Unmark of an older one", b.unmark(t, want-3), api.OK)
		}
	}
	for mark := 1; mark <= 30; mark++ {
		b.unmark(t, mark)
	}
	if mark, err := b.mark(t, api.UnitRune, 0); mark != 31 || err != api.OK {
		t.Errorf("Mark: %d, error %d", mark, int(err))
	}
}

// TestNone: P19.5: Where and Unmark of numbers that are none, were taken away, are below 0.
func TestNone(t *testing.T) {
	b := found(t, config, "abc")
	none := func(about string, marks ...int) {
		t.Helper()
		for _, mark := range marks {
			s, err := b.e.Where(mark)
			wantZero(t, about, s, err, api.ErrNone)
			wantErr(t, about, b.unmark(t, mark), api.ErrNone)
		}
	}
	none("no anchor as yet", 0, 1, 2, -1, math.MaxInt, math.MinInt)
	b.markAll(t)
	none("four anchors", 0, 5, 6, -1, -4, math.MaxInt, math.MinInt)
	b.wantRunes(t, "none was meant", 0, 1, 2, 3)
	wantErr(t, "Unmark", b.unmark(t, 2), api.OK)
	none("one was taken away", 2, 2)
	wantErr(t, "Unmark", b.unmark(t, 4), api.OK)
	none("another one", 4, 2, 5)
	if s, err := b.e.Where(3); s.Rune != 2 || err != api.OK {
		t.Errorf("%+v, error %d", s, int(err))
	}
	b.erase(t, api.UnitRune, 0, 3)
	none("their elements are gone", 2, 4)
	// One whose element is gone is there all the same.
	wantErr(t, "Unmark", b.unmark(t, 3), api.OK)
	none("that one too", 3)
}

// TestWhere: P19.5: all numbers of a place, at the beginning, between, within letters and at the end.
func TestWhere(t *testing.T) {
	for _, text := range texts {
		b := found(t, config, text)
		b.markAll(t)
		runes := []rune(text)
		for k := range len(runes) + 1 {
			if s, err := b.e.Where(k + 1); s != spotAhead(runes, k) || err != api.OK {
				t.Errorf("%q, %d: %+v, error %d", text, k, s, int(err))
			}
		}
	}
}

// TestTyped: P19.10: anchors keep their elements, whatever is typed: what comes just at their place stands behind them.
func TestTyped(t *testing.T) {
	for at := range 4 {
		for _, typed := range []string{"x", "x𝄞\u0303"} {
			b := found(t, config, "abc")
			b.markAll(t)
			b.insert(t, api.UnitRune, at, typed)
			want := []int{0, 1, 2, 3}
			for k := at + 1; k < 4; k++ {
				want[k] += len([]rune(typed))
			}
			b.wantRunes(t, typed, want...)
			// Once more at the same place, and at the end.
			b.insert(t, api.UnitRune, at, typed)
			b.insert(t, api.UnitRune, b.r.Len(), typed)
			for k := at + 1; k < 4; k++ {
				want[k] += len([]rune(typed))
			}
			b.wantRunes(t, typed, want...)
		}
	}
}

// TestReceived: P19.10: the same of what another site has typed at that place, whichever of the two comes first there.
func TestReceived(t *testing.T) {
	for at := range 4 {
		a, b := pair(t, config, "abc")
		a.markAll(t)
		b.markAll(t)
		a.insert(t, api.UnitRune, at, "xx")
		b.insert(t, api.UnitRune, at, "yyy")
		tell(t, a, b)
		tell(t, b, a)
		a.wantText(t, b.e.Text())
		want := []int{0, 1, 2, 3}
		for k := at + 1; k < 4; k++ {
			want[k] += 5
		}
		a.wantRunes(t, "both typed", want...)
		b.wantRunes(t, "both typed", want...)
	}
}

// TestMarkTyped: P19.5, P19.10: an anchor behind what was typed at another one's place goes with what was typed.
func TestMarkTyped(t *testing.T) {
	b := found(t, config, "")
	b.mark(t, api.UnitRune, 0)
	b.insert(t, api.UnitRune, 0, "a")
	b.mark(t, api.UnitRune, 1)
	b.insert(t, api.UnitRune, 0, "b")
	b.mark(t, api.UnitRune, 1)
	b.insert(t, api.UnitRune, 1, "c")
	b.wantText(t, "bca")
	b.wantRunes(t, "beginning, a, b", 0, 3, 1)
	b.erase(t, api.UnitRune, 0, 1)
	b.wantRunes(t, "b gone", 0, 2, 0)
	b.insert(t, api.UnitRune, 0, "d")
	b.wantRunes(t, "d ahead", 0, 3, 0)
}

// TestEraseAnchors: P19.6, P19.10: each stretch of a text goes, with an anchor at each place: those behind it go with the nearest one ahead, all others stay.
func TestEraseAnchors(t *testing.T) {
	const text = "an\u0303𝄞z"
	for from := range 5 {
		for to := from + 1; to <= 5; to++ {
			b := found(t, config, text)
			b.markAll(t)
			_, err := b.erase(t, api.UnitRune, from, to)
			wantErr(t, "Erase", err, api.OK)
			var want []int
			for k := range 6 {
				want = append(want, k-max(0, min(k, to)-from))
			}
			b.wantRunes(t, "erased", want...)
			// They have moved for good: what comes at that place stands behind them.
			b.insert(t, api.UnitRune, from, "q")
			for k := range want {
				if k > to {
					want[k]++
				}
			}
			b.wantRunes(t, "typed there", want...)
		}
	}
}

// TestBitByBit: P19.6: elements that go one by one, from either end: at each call what was shown ahead of it counts.
func TestBitByBit(t *testing.T) {
	b := found(t, config, "abcd")
	b.markAll(t)
	b.erase(t, api.UnitRune, 3, 4)
	b.wantRunes(t, "d", 0, 1, 2, 3, 3)
	b.erase(t, api.UnitRune, 1, 2)
	b.wantRunes(t, "b", 0, 1, 1, 2, 2)
	b.insert(t, api.UnitRune, 1, "x")
	b.wantText(t, "axc")
	b.wantRunes(t, "x behind a", 0, 1, 1, 3, 3)
	b.erase(t, api.UnitRune, 2, 3)
	// x was there ahead of the call, so they stand behind it.
	b.wantRunes(t, "c", 0, 1, 1, 2, 2)
	b.erase(t, api.UnitRune, 0, 1)
	b.wantRunes(t, "a", 0, 0, 0, 1, 1)
	b.erase(t, api.UnitRune, 0, 1)
	b.wantRunes(t, "x", 0, 0, 0, 0, 0)
}

// TestSetAnchors: P19.6: SetText is one call: what it lays where an element goes is not what the anchor stands behind.
func TestSetAnchors(t *testing.T) {
	for _, x := range []struct {
		from, to string
		want     []int
	}{
		{"abc", "xyz", []int{0, 0, 0, 0}},
		{"abc", "", []int{0, 0, 0, 0}},
		{"abc", "axc", []int{0, 1, 1, 3}},
		{"abc", "axxc", []int{0, 1, 1, 4}},
		{"abc", "xbz", []int{0, 0, 2, 2}},
		{"abcd", "ad", []int{0, 1, 1, 1, 2}},
		{"abcd", "axd", []int{0, 1, 1, 1, 3}},
		{"abcd", "bxdy", []int{0, 0, 1, 1, 3}},
		{"ab", "ba", []int{0, 0, 1}}, // a goes, and another a comes
		{"abc", "abc", []int{0, 1, 2, 3}},
		{"abc", "xaybzc", []int{0, 2, 4, 6}},
	} {
		b := found(t, config, x.from)
		b.markAll(t)
		_, err := b.setText(t, x.to)
		wantErr(t, "SetText", err, api.OK)
		b.wantRunes(t, x.from+" to "+x.to, x.want...)
	}
}

// TestReceiveAnchors: P19.6, P19.10: another site takes elements out, one, several neighbours and all, and lays others at the same place; all comes in one frame.
func TestReceiveAnchors(t *testing.T) {
	wide := config
	wide.Push = 100
	wide.Hold = 100
	for _, x := range []struct {
		about string
		edit  func(both)
		text  string
		want  []int
	}{
		{"one", func(b both) { b.erase(t, api.UnitRune, 1, 2) }, "acd", []int{0, 1, 1, 2, 3}},
		{"the first one", func(b both) { b.erase(t, api.UnitRune, 0, 1) }, "bcd", []int{0, 0, 1, 2, 3}},
		{"neighbours", func(b both) { b.erase(t, api.UnitRune, 1, 3) }, "ad", []int{0, 1, 1, 1, 2}},
		{"all", func(b both) { b.erase(t, api.UnitRune, 0, 4) }, "", []int{0, 0, 0, 0, 0}},
		{"one, and another one there", func(b both) { b.setText(t, "axcd") }, "axcd", []int{0, 1, 1, 3, 4}},
		{"neighbours, and others there", func(b both) { b.setText(t, "axyd") }, "axyd", []int{0, 1, 1, 1, 4}},
		{"others ahead and behind, then one goes", func(b both) {
			b.insert(t, api.UnitRune, 2, "y")
			b.insert(t, api.UnitRune, 1, "x")
			b.erase(t, api.UnitRune, 2, 3)
		}, "axycd", []int{0, 1, 1, 4, 5}},
		{"all, and others", func(b both) { b.setText(t, "xyz") }, "xyz", []int{0, 0, 0, 0, 0}},
		{"what came goes again", func(b both) {
			b.insert(t, api.UnitRune, 2, "xyz")
			b.erase(t, api.UnitRune, 1, 4)
		}, "azcd", []int{0, 1, 1, 3, 4}},
	} {
		for _, keep := range []int{0, 100} {
			wide.Keep = keep
			a, b := pair(t, wide, "abcd")
			a.markAll(t)
			b.markAll(t)
			x.edit(b)
			out := b.draw(t, 1)
			_, err := a.receive(t, out[0].Data)
			wantErr(t, x.about, err, api.OK)
			a.wantText(t, x.text)
			a.wantRunes(t, x.about, x.want...)
			// The same frame again takes nothing out.
			a.receive(t, out[0].Data)
			a.wantRunes(t, x.about, x.want...)
		}
	}
}

// TestTwice: P19.6: an element that two sites take out at one time goes once; the anchor has moved by then.
func TestTwice(t *testing.T) {
	a, b := pair(t, config, "abc")
	a.markAll(t)
	b.markAll(t)
	a.erase(t, api.UnitRune, 1, 2)
	b.erase(t, api.UnitRune, 1, 3)
	a.insert(t, api.UnitRune, 1, "x")
	tell(t, a, b)
	tell(t, b, a)
	a.wantText(t, "ax")
	b.wantText(t, "ax")
	// At a the c stood behind x, which was shown; at b both had gone ahead of x's coming.
	a.wantRunes(t, "at a", 0, 1, 1, 2)
	b.wantRunes(t, "at b", 0, 1, 1, 1)
}

// TestForgotten: P19.6: an element that goes and is forgotten in the same call, its site keeping nothing.
func TestForgotten(t *testing.T) {
	alone := found(t, keeping(0), "abc")
	alone.markAll(t)
	alone.erase(t, api.UnitRune, 1, 3)
	if n := alone.r.Sight().Kept; n != 1 {
		t.Fatalf("%d elements are kept", n)
	}
	alone.wantRunes(t, "forgotten", 0, 1, 1, 1)
	alone.setText(t, "")
	alone.wantRunes(t, "all forgotten", 0, 0, 0, 0)

	a, b := pair(t, keeping(0), "abc")
	b.markAll(t)
	a.erase(t, api.UnitRune, 2, 3)
	a.erase(t, api.UnitRune, 0, 1)
	for range 3 {
		tell(t, a, b)
		tell(t, b, a)
	}
	b.wantRunes(t, "forgotten", 0, 0, 1, 1)
	if n := b.r.Sight().Kept; n != 2 {
		t.Errorf("%d elements are kept", n) // a is, as b stands behind it
	}
}

// TestIdleAnchor: P19.5, P19.7: an anchor of an idle one stands at the beginning, and stays there when an image comes.
func TestIdleAnchor(t *testing.T) {
	a := found(t, config, "abc")
	a.join(t, 2)
	b := idle(t, 2, config)
	for _, unit := range units {
		b.mark(t, unit, 0)
	}
	tell(t, a, b)
	b.wantText(t, "abc")
	b.wantRunes(t, "an image", 0, 0, 0, 0)
	b.markAll(t)
	b.wantRunes(t, "more of them", 0, 0, 0, 0, 0, 1, 2, 3)
}

// TestWoken: P19.6, W1: a hand-made frame may leave a delete that waits for what this site issues next: then typing takes an element out, and the anchor moves all the same.
func TestWoken(t *testing.T) {
	for _, call := range []func(both){
		func(b both) { b.insert(t, api.UnitRune, 1, "xy") },
		func(b both) { b.erase(t, api.UnitRune, 2, 3) },
	} {
		b := found(t, config, "abc") // it has issued 1.1 and 1.2
		b.markAll(t)
		gone := api.Op{Dot: api.Dot{Site: 2, Seq: 1}, Deps: api.Vector{{Site: 1, Seq: 3}}, Kind: api.OpDelete, Gone: []api.Run{{ID: api.ID{Time: 2, Site: 1}, Count: 1}}}
		b.receive(t, encoded(t, api.Frame{Kind: api.FrameOps, From: 2, To: 1, Have: api.Vector{{Site: 1, Seq: 3}, {Site: 2, Seq: 1}}, Ops: []api.Op{gone}}))
		b.wantText(t, "abc")
		if held := b.r.Sight().Held; len(held) != 1 {
			t.Fatalf("%v wait", held)
		}
		call(b)
		if s, err := b.e.Where(3); s.Rune != 1 || err != api.OK {
			t.Errorf("%+v, error %d, of %q", s, int(err), b.e.Text())
		}
	}
}
