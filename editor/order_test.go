package editor_test

import (
	"strings"
	"testing"

	"hearsay/api"
)

// ask is a call and the error that it has.
type ask struct {
	about string
	call  func(both) (any, api.Errno)
	want  api.Errno
}

func typing(unit, at int, text string, want api.Errno) ask {
	return ask{"Type", func(b both) (any, api.Errno) { return anyOf(b.e.Type(unit, at, text)) }, want}
}

func erasing(unit, from, to int, want api.Errno) ask {
	return ask{"Erase", func(b both) (any, api.Errno) { return anyOf(b.e.Erase(unit, from, to)) }, want}
}

func setting(text string, want api.Errno) ask {
	return ask{"SetText", func(b both) (any, api.Errno) { return anyOf(b.e.SetText(text)) }, want}
}

func marking(unit, at int, want api.Errno) ask {
	return ask{"Mark", func(b both) (any, api.Errno) { return anyOf(b.e.Mark(unit, at)) }, want}
}

func seeing(unit, at int, want api.Errno) ask {
	return ask{"Spot", func(b both) (any, api.Errno) { return anyOf(b.e.Spot(unit, at)) }, want}
}

func hearing(data []byte, want api.Errno) ask {
	return ask{"Receive", func(b both) (any, api.Errno) { return anyOf(b.e.Receive(data)) }, want}
}

func anyOf[T any](x T, err api.Errno) (any, api.Errno) { return x, err }

// wantRefused: each has its error and nothing else, and none changes anything: neither the text nor the site nor an anchor.
func wantRefused(t *testing.T, about string, b both, asks []ask) {
	t.Helper()
	for i, a := range asks {
		got, err := a.call(b)
		if err != a.want {
			t.Errorf("%s: %d: %s: error %d; want %d", about, i, a.about, int(err), int(a.want))
		}
		wantZero(t, about+": "+a.about, got, err, a.want)
		b.wantSame(t, about)
	}
}

var (
	longText = strings.Repeat("x", api.MaxText+1)
	longDiff = strings.Repeat("x", api.MaxDiff+1)
)

// TestOrderActive: W3, W4: two errors at once of one that may edit.
func TestOrderActive(t *testing.T) {
	b := found(t, config, "n\u0303𝄞z")
	b.markAll(t)
	wantRefused(t, "active", b, []ask{
		typing(9, -1, "", api.ErrArg), typing(0, 99, "\xff", api.ErrArg), typing(9, 0, longText, api.ErrArg),
		typing(api.UnitRune, -1, "", api.ErrIndex), typing(api.UnitRune, 5, "\xff", api.ErrIndex), typing(api.UnitRune, 5, longText, api.ErrIndex),
		typing(api.UnitByte, 2, "", api.ErrWithin), typing(api.UnitUTF16, 3, "\xff", api.ErrWithin), typing(api.UnitByte, 2, longText, api.ErrWithin),
		typing(api.UnitRune, 0, "", api.ErrText), typing(api.UnitRune, 0, longText+"\xff", api.ErrText), typing(api.UnitRune, 0, longText, api.ErrLong),
		erasing(9, -1, 99, api.ErrArg), erasing(api.UnitRune, -1, 99, api.ErrIndex), erasing(api.UnitByte, 2, 99, api.ErrWithin),
		erasing(api.UnitByte, 7, 2, api.ErrWithin), erasing(api.UnitRune, 4, 3, api.ErrIndex),
		setting(longDiff+"\xff", api.ErrText), setting("\xff", api.ErrText), setting(longDiff, api.ErrLong),
		marking(9, -1, api.ErrArg), marking(api.UnitByte, 9, api.ErrIndex), marking(api.UnitByte, -1, api.ErrIndex), marking(api.UnitByte, 2, api.ErrWithin),
		seeing(9, 99, api.ErrArg), seeing(api.UnitClump, 4, api.ErrIndex), seeing(api.UnitUTF16, 3, api.ErrWithin),
		hearing(nil, api.ErrShort), hearing([]byte{1, 2}, api.ErrShort),
	})
	b.wantRunes(t, "all were refused", 0, 1, 2, 3, 4)
}

// TestOrderIdle: W3, W4, P19.3: of one that is idle the place comes first, then that it is idle, then the text.
func TestOrderIdle(t *testing.T) {
	b := idle(t, 2, config)
	mark, err := b.mark(t, api.UnitByte, 0)
	if mark != 1 || err != api.OK {
		t.Errorf("Mark: %d, error %d", mark, int(err))
	}
	i := nearFull("ab", 9, 9)
	ops := api.Frame{Kind: api.FrameOps, From: 1, To: 2, Have: i.Vector}
	other, own, strange := ops, ops, api.Frame{Kind: api.FrameImage, From: 1, To: 2, Have: i.Vector, Image: i}
	other.To = 3
	own.From = 2
	own.To = 1
	strange.Image.Left = []int{2}
	strange.Image.Epoch = 3
	wantRefused(t, "idle", b, []ask{
		typing(9, 0, "", api.ErrArg), typing(api.UnitRune, 1, "x", api.ErrIndex), typing(api.UnitByte, -1, "\xff", api.ErrIndex),
		typing(api.UnitRune, 0, "x", api.ErrIdle), typing(api.UnitClump, 0, "", api.ErrIdle), typing(api.UnitUTF16, 0, longText, api.ErrIdle),
		erasing(9, 0, 1, api.ErrArg), erasing(api.UnitRune, 0, 1, api.ErrIndex), erasing(api.UnitRune, 0, 0, api.ErrIndex),
		setting("", api.ErrIdle), setting("x", api.ErrIdle), setting("\xff", api.ErrIdle), setting(longDiff, api.ErrIdle),
		marking(api.UnitRune, 1, api.ErrIndex), seeing(api.UnitClump, 1, api.ErrIndex),
		hearing(encoded(t, ops), api.ErrIdle), hearing(encoded(t, other), api.ErrSite), hearing(encoded(t, own), api.ErrSite),
		hearing(encoded(t, strange), api.ErrSite), hearing(encoded(t, ops)[:5], api.ErrShort),
	})
	b.wantRunes(t, "all were refused", 0)
}

// TestOrderLeaving: W3, W4, P19.3: of one that leaves the place comes first, then that it leaves, then the text. What it shows can still be asked for and marked.
func TestOrderLeaving(t *testing.T) {
	b := found(t, config, "n\u0303𝄞z")
	b.markAll(t)
	b.leave(t)
	wantRefused(t, "leaving", b, []ask{
		typing(9, 0, "x", api.ErrArg), typing(api.UnitRune, 5, "x", api.ErrIndex), typing(api.UnitByte, 2, "x", api.ErrWithin),
		typing(api.UnitRune, 0, "x", api.ErrLeft), typing(api.UnitRune, 0, "", api.ErrLeft), typing(api.UnitRune, 0, longText+"\xff", api.ErrLeft),
		erasing(9, 0, 1, api.ErrArg), erasing(api.UnitRune, 1, 1, api.ErrIndex), erasing(api.UnitByte, 0, 2, api.ErrWithin),
		erasing(api.UnitRune, 0, 1, api.ErrLeft),
		setting("n\u0303𝄞z", api.ErrLeft), setting("", api.ErrLeft), setting("\xff", api.ErrLeft), setting(longDiff, api.ErrLeft),
	})
	b.wantRunes(t, "all were refused", 0, 1, 2, 3, 4)
	if mark, err := b.mark(t, api.UnitClump, 2); mark != 6 || err != api.OK {
		t.Errorf("Mark: %d, error %d", mark, int(err))
	}
	wantErr(t, "Unmark", b.unmark(t, 3), api.OK)

	many := woken(t, config, nearFull(strings.Repeat("x", api.MaxGone+1), 9, 9))
	many.leave(t)
	wantRefused(t, "leaving", many, []ask{erasing(api.UnitRune, 0, api.MaxGone+1, api.ErrLeft), setting("", api.ErrLeft)})
}

// TestOrderFull: W3, W4, P19.3: that the numbers have come to their end is said last.
func TestOrderFull(t *testing.T) {
	seqs := woken(t, config, nearFull("n\u0303𝄞z", 0, 9))
	times := woken(t, config, nearFull("n\u0303𝄞z", 9, 0))
	for _, b := range []both{seqs, times} {
		b.markAll(t)
		wantRefused(t, "full", b, []ask{
			typing(9, 0, "x", api.ErrArg), typing(api.UnitRune, 5, "x", api.ErrIndex), typing(api.UnitByte, 2, "x", api.ErrWithin),
			typing(api.UnitRune, 0, "", api.ErrText), typing(api.UnitRune, 0, "\xff", api.ErrText), typing(api.UnitRune, 0, longText, api.ErrLong),
			typing(api.UnitRune, 0, "x", api.ErrFull),
			erasing(9, 0, 1, api.ErrArg), erasing(api.UnitRune, 1, 1, api.ErrIndex), erasing(api.UnitByte, 0, 2, api.ErrWithin),
			setting("\xff", api.ErrText), setting(longDiff+"\xff", api.ErrText), setting(longDiff, api.ErrLong),
			setting("x", api.ErrFull), setting("n\u0303𝄞zx", api.ErrFull),
		})
	}
	wantRefused(t, "no Seq", seqs, []ask{erasing(api.UnitRune, 0, 1, api.ErrFull), setting("", api.ErrFull), setting("n\u0303𝄞", api.ErrFull)})
	// A delete needs no time, and what is shown already needs nothing.
	_, err := times.erase(t, api.UnitRune, 0, 1)
	wantErr(t, "Erase without a time", err, api.OK)
	ops, err := times.setText(t, "\u0303z")
	if len(ops) != 1 || err != api.OK {
		t.Errorf("%+v, error %d", ops, int(err))
	}
	ops, err = seqs.setText(t, "n\u0303𝄞z")
	if len(ops) != 0 || err != api.OK {
		t.Errorf("%+v, error %d", ops, int(err))
	}

	many := woken(t, config, nearFull(strings.Repeat("x", api.MaxGone+1), 0, 0))
	wantRefused(t, "full, and long", many, []ask{
		erasing(api.UnitRune, 0, api.MaxGone+1, api.ErrLong), erasing(api.UnitRune, 0, api.MaxGone, api.ErrFull),
		setting("", api.ErrLong), setting("\xff", api.ErrText),
	})
}

// TestLastNumbers: P19.1, P19.2: the last Seq and the last times are used, and none behind them.
func TestLastNumbers(t *testing.T) {
	b := woken(t, config, nearFull("ab", 3, 3))
	b.markAll(t)
	_, err := b.insert(t, api.UnitRune, 1, "xyzé")
	wantErr(t, "four times of three", err, api.ErrFull)
	o, err := b.insert(t, api.UnitRune, 1, "x𝄞")
	wantErr(t, "two times of three", err, api.OK)
	if o.Dot.Seq != api.MaxSeq-2 || o.ID.Time != api.MaxTime-2 {
		t.Errorf("%+v", o)
	}
	_, err = b.insert(t, api.UnitRune, 1, "xy")
	wantErr(t, "two times of one", err, api.ErrFull)
	_, err = b.insert(t, api.UnitRune, 1, "y")
	wantErr(t, "the last time", err, api.OK)
	_, err = b.insert(t, api.UnitRune, 1, "y")
	wantErr(t, "no time", err, api.ErrFull)
	o, err = b.erase(t, api.UnitRune, 1, 3)
	wantErr(t, "the last Seq", err, api.OK)
	if o.Dot.Seq != api.MaxSeq {
		t.Errorf("%+v", o)
	}
	_, err = b.erase(t, api.UnitRune, 1, 2)
	wantErr(t, "no Seq", err, api.ErrFull)
	b.wantText(t, "a𝄞b")
	b.wantRunes(t, "typed between them", 0, 1, 3)
}
