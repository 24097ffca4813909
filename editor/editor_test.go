package editor_test

import (
	"strings"
	"testing"

	"hearsay/api"
	"hearsay/editor"
	"hearsay/replica"
)

// TestExamples: all rows of the chapter's examples.
func TestExamples(t *testing.T) {
	b := found(t, config, "an\u0303𝄞z")
	s, err := b.e.Spot(api.UnitByte, 4)
	if err != api.OK || s.Byte != 4 || s.Rune != 3 || s.Unit != 3 || s.Clump != 2 {
		t.Errorf("%+v, error %d", s, int(err))
	}
	_, err = b.e.Spot(api.UnitByte, 3)
	wantErr(t, "within the mark", err, api.ErrWithin)
	if s, err = b.e.Spot(api.UnitUTF16, 5); err != api.OK || s.Byte != 8 || s.Rune != 4 {
		t.Errorf("%+v, error %d", s, int(err))
	}

	b.insert(t, api.UnitClump, 1, "b")
	b.wantText(t, "abn\u0303𝄞z")
	if mark, err := b.mark(t, api.UnitRune, 2); mark != 1 || err != api.OK {
		t.Errorf("Mark: %d, error %d", mark, int(err))
	}
	b.insert(t, api.UnitRune, 2, "c")
	b.wantText(t, "abcn\u0303𝄞z")
	b.wantRunes(t, "c behind it", 2)
	b.erase(t, api.UnitRune, 1, 3)
	b.wantText(t, "an\u0303𝄞z")
	b.wantRunes(t, "b gone", 1)
	b.erase(t, api.UnitRune, 0, 1)
	b.wantText(t, "n\u0303𝄞z")
	b.wantRunes(t, "a gone", 0)
	wantErr(t, "Unmark", b.unmark(t, 1), api.OK)
	_, err = b.e.Where(1)
	wantErr(t, "Where of none", err, api.ErrNone)

	// n and its mark go, x comes.
	if ops, err := b.setText(t, "x𝄞z"); len(ops) != 2 || err != api.OK {
		t.Errorf("%+v, error %d", ops, int(err))
	}
	b.wantText(t, "x𝄞z")
	_, err = b.setText(t, "\xff")
	wantErr(t, "no text", err, api.ErrText)
	_, err = b.setText(t, strings.Repeat("é", 401))
	wantErr(t, "401 runes", err, api.ErrLong)

	other := found(t, config, "an\u0303𝄞z")
	other.insert(t, api.UnitClump, 0, "b")
	other.wantText(t, "ban\u0303𝄞z")
}

// wantNothing: every call of an editor without a site says ErrArg, and nothing else.
func wantNothing(t *testing.T, e *editor.Editor) {
	t.Helper()
	for range 2 {
		for _, unit := range []int{api.UnitByte, api.UnitRune, api.UnitUTF16, api.UnitClump, 0, 5} {
			for _, at := range []int{0, 1, -1} {
				o, err := e.Type(unit, at, "x")
				wantZero(t, "Type", o, err, api.ErrArg)
				o, err = e.Erase(unit, at, at+1)
				wantZero(t, "Erase", o, err, api.ErrArg)
				s, err := e.Spot(unit, at)
				wantZero(t, "Spot", s, err, api.ErrArg)
				n, err := e.Mark(unit, at)
				wantZero(t, "Mark", n, err, api.ErrArg)
				s, err = e.Where(at)
				wantZero(t, "Where", s, err, api.ErrArg)
				wantErr(t, "Unmark", e.Unmark(at), api.ErrArg)
			}
		}
		for _, text := range []string{"", "x", "\xff", strings.Repeat("x", api.MaxDiff+1)} {
			ops, err := e.SetText(text)
			wantZero(t, "SetText", ops, err, api.ErrArg)
			out, err := e.Receive([]byte(text))
			wantZero(t, "Receive", out, err, api.ErrArg)
		}
		out, err := e.Receive(nil)
		wantZero(t, "Receive", out, err, api.ErrArg)
		if text := e.Text(); text != "" {
			t.Errorf("Text: %q", text)
		}
	}
}

// TestNoSite: W1, W8: a nil Editor, a zero one and one of a nil Replica answer ErrArg, whatever they are asked, and zero values.
func TestNoSite(t *testing.T) {
	wantNothing(t, nil)
	wantNothing(t, &editor.Editor{})
	wantNothing(t, new(editor.Editor))
	e := editor.Open(nil)
	if e == nil {
		t.Error("Open(nil) is nil")
	}
	wantNothing(t, e)
}

// TestZeroSite: W8, P18.1: a zero Replica is an idle one, of no site: its editor shows nothing, and takes no image.
func TestZeroSite(t *testing.T) {
	b := bothOf(t, func() (*replica.Replica, api.Errno) { return &replica.Replica{}, api.OK })
	b.markAll(t)
	_, err := b.insert(t, api.UnitRune, 0, "x")
	wantErr(t, "Type", err, api.ErrIdle)
	_, err = b.setText(t, "")
	wantErr(t, "SetText", err, api.ErrIdle)
	i := nearFull("ab", 5, 5)
	_, err = b.receive(t, encoded(t, api.Frame{Kind: api.FrameImage, From: 1, To: 2, Have: i.Vector, Image: i}))
	wantErr(t, "Receive", err, api.ErrSite)
	b.wantRunes(t, "still there", 0)
}

// TestApart: W2: editors have nothing in common: each numbers its own anchors, and shows its own text.
func TestApart(t *testing.T) {
	a, b := found(t, config, "abc"), found(t, config, "xyz")
	for k := range 3 {
		a.mark(t, api.UnitRune, k)
		b.mark(t, api.UnitRune, 3-k)
		a.insert(t, api.UnitRune, 0, "a")
		b.erase(t, api.UnitRune, 0, 1)
		a.wantSame(t, "the other one was edited")
	}
	a.wantText(t, "aaaabc")
	b.wantText(t, "")
	a.wantRunes(t, "three anchors", 0, 3, 3)
	b.wantRunes(t, "three anchors", 0, 0, 0)
}
