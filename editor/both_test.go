package editor_test

import (
	"bytes"
	"fmt"
	"math"
	"reflect"
	"testing"

	"hearsay/api"
	"hearsay/editor"
	"hearsay/frame"
	"hearsay/replica"
)

var config = api.Config{Hold: 8, Window: 2, Push: 3, Min: 2, Max: 8, Keep: 100}

// keeping is config with another Keep.
func keeping(n int) api.Config {
	c := config
	c.Keep = n
	return c
}

var units = []int{api.UnitByte, api.UnitRune, api.UnitUTF16, api.UnitClump}

// both is an editor and its model. Each call goes to both; their answers are held against each other, and then all that the editor shows.
type both struct {
	e *editor.Editor
	r *replica.Replica // the editor's; only for what an editor has no call for
	m *model
}

func bothOf(t *testing.T, make func() (*replica.Replica, api.Errno)) both {
	t.Helper()
	r, err := make()
	wantErr(t, "a site", err, api.OK)
	twin, _ := make()
	return both{editor.Open(r), r, newModel(twin)}
}

// found is the editor of a site that founds a world, and shows a text.
func found(t *testing.T, c api.Config, text string) both {
	t.Helper()
	b := bothOf(t, func() (*replica.Replica, api.Errno) { return replica.Found(1, c) })
	if text != "" {
		_, err := b.insert(t, api.UnitRune, 0, text)
		wantErr(t, "the first text", err, api.OK)
	}
	return b
}

// idle is the editor of a site that has nothing as yet.
func idle(t *testing.T, site int, c api.Config) both {
	t.Helper()
	return bothOf(t, func() (*replica.Replica, api.Errno) { return replica.Idle(site, c) })
}

// woken is the editor of the site 2 that was woken by an image.
func woken(t *testing.T, c api.Config, i api.Image) both {
	t.Helper()
	b := idle(t, 2, c)
	_, err := b.receive(t, encoded(t, api.Frame{Kind: api.FrameImage, From: 1, To: 2, Have: i.Vector, Image: i}))
	wantErr(t, "an image", err, api.OK)
	return b
}

// nearFull is an image that shows a text, no two runes of which are of one run; so many operations and times are left to the site 2.
func nearFull(text string, seqs, times int) api.Image {
	i := api.Image{Clock: api.MaxTime - times, Joined: []int{1, 2}, Epoch: 2}
	i.Vector = api.Vector{{Site: 1, Seq: 9}, {Site: 2, Seq: api.MaxSeq - seqs}}
	i.Base = i.Vector
	last := api.ID{}
	for _, r := range text {
		next := api.ID{Time: last.Time + 2, Site: 1}
		i.Nodes = append(i.Nodes, api.Node{ID: next, Ref: last, Rune: r, State: api.StateShown})
		last = next
	}
	return i
}

func (b both) insert(t *testing.T, unit, at int, text string) (api.Op, api.Errno) {
	t.Helper()
	want, wantErr := b.m.insert(unit, at, text)
	got, err := b.e.Type(unit, at, text)
	b.want(t, fmt.Sprintf("Type(%d, %d, %.20q)", unit, at, text), got, err, want, wantErr)
	return got, err
}

func (b both) erase(t *testing.T, unit, from, to int) (api.Op, api.Errno) {
	t.Helper()
	want, wantErr := b.m.erase(unit, from, to)
	got, err := b.e.Erase(unit, from, to)
	b.want(t, fmt.Sprintf("Erase(%d, %d, %d)", unit, from, to), got, err, want, wantErr)
	return got, err
}

func (b both) setText(t *testing.T, text string) ([]api.Op, api.Errno) {
	t.Helper()
	least := weightOf(b.m.site.Text(), text)
	want, wantErr := b.m.setText(text)
	got, err := b.e.SetText(text)
	if len(got) == 0 {
		got = nil // W5
	}
	b.want(t, fmt.Sprintf("SetText(%.20q)", text), got, err, want, wantErr)
	if err == api.OK && (b.e.Text() != text || weight(got) != least) {
		t.Fatalf("SetText(%q): %q, of the weight %d; want %d", text, b.e.Text(), weight(got), least)
	}
	return got, err
}

// weightOf is how many runes must go and come at least.
func weightOf(a, b string) int {
	x, y := []rune(a), []rune(b)
	if len(x) > api.MaxDiff || len(y) > api.MaxDiff {
		return 0
	}
	return len(x) + len(y) - 2*common(x, y)[0][0]
}

func (b both) receive(t *testing.T, data []byte) ([]replica.Out, api.Errno) {
	t.Helper()
	want, wantErr := b.m.receive(bytes.Clone(data))
	got, err := b.e.Receive(data)
	b.want(t, "Receive", got, err, want, wantErr)
	return got, err
}

func (b both) mark(t *testing.T, unit, at int) (int, api.Errno) {
	t.Helper()
	want, wantErr := b.m.mark(unit, at)
	got, err := b.e.Mark(unit, at)
	b.want(t, fmt.Sprintf("Mark(%d, %d)", unit, at), got, err, want, wantErr)
	return got, err
}

func (b both) unmark(t *testing.T, mark int) api.Errno {
	t.Helper()
	wantErr := b.m.unmark(mark)
	err := b.e.Unmark(mark)
	b.want(t, fmt.Sprintf("Unmark(%d)", mark), nil, err, nil, wantErr)
	return err
}

// draw lets the site speak to a peer, which is no call of an editor.
func (b both) draw(t *testing.T, peer int) []replica.Out {
	t.Helper()
	want, wantErr := b.m.site.Draw(peer)
	got, err := b.r.Draw(peer)
	b.want(t, "Draw", got, err, want, wantErr)
	return got
}

// join lets another site in.
func (b both) join(t *testing.T, site int) {
	t.Helper()
	want, wantErr := b.m.site.Join(site)
	got, err := b.r.Join(site)
	b.want(t, "Join", got, err, want, wantErr)
}

// leave lets the site leave.
func (b both) leave(t *testing.T) {
	t.Helper()
	want, wantErr := b.m.site.Leave()
	got, err := b.r.Leave()
	b.want(t, "Leave", got, err, want, wantErr)
}

// want holds an answer against the model's, and then all that the two show.
func (b both) want(t *testing.T, about string, got any, err api.Errno, want any, wantErr api.Errno) {
	t.Helper()
	if err != wantErr || !reflect.DeepEqual(got, want) {
		t.Fatalf("%s: %+v, error %d; want %+v, error %d", about, got, int(err), want, int(wantErr))
	}
	b.wantSame(t, about)
}

// wantSame holds all that the editor and its site show against the model: the text, all spots in all units, all anchors.
func (b both) wantSame(t *testing.T, about string) {
	t.Helper()
	text := b.m.site.Text()
	if got := b.e.Text(); got != text {
		t.Fatalf("%s: the text is %q; want %q", about, got, text)
	}
	if !reflect.DeepEqual(b.r.Sight(), b.m.site.Sight()) || !reflect.DeepEqual(b.r.Image(), b.m.site.Image()) {
		t.Fatalf("%s: the site is %+v; want %+v", about, b.r.Sight(), b.m.site.Sight())
	}
	if len(text) <= 40 { // longer ones have tests of their own
		spots := allSpots(text)
		for unit := 0; unit <= 5; unit++ {
			for n := -1; n <= len(text)+1; n++ {
				got, err := b.e.Spot(unit, n)
				want, wantErr := findSpot(spots, unit, n)
				if got != want || err != wantErr {
					t.Fatalf("%s: Spot(%d, %d) of %q: %+v, error %d; want %+v, error %d", about, unit, n, text, got, int(err), want, int(wantErr))
				}
			}
		}
	}
	for mark := -1; mark <= b.m.last+1; mark++ {
		b.wantWhere(t, about, mark)
	}
	b.wantWhere(t, about, math.MaxInt)
	b.wantWhere(t, about, math.MinInt)
}

func (b both) wantWhere(t *testing.T, about string, mark int) {
	t.Helper()
	got, err := b.e.Where(mark)
	want, wantErr := b.m.where(mark)
	if got != want || err != wantErr {
		t.Fatalf("%s: Where(%d) in %q: %+v, error %d; want %+v, error %d", about, mark, b.e.Text(), got, int(err), want, int(wantErr))
	}
}

// wantRunes: the anchors 1, 2 and so on stand at these runes.
func (b both) wantRunes(t *testing.T, about string, runes ...int) {
	t.Helper()
	for i, want := range runes {
		if s, err := b.e.Where(i + 1); err != api.OK || s.Rune != want {
			t.Errorf("%s: the anchor %d stands at %d, error %d; want %d", about, i+1, s.Rune, int(err), want)
		}
	}
}

// markAll lays an anchor at each place, the beginning first.
func (b both) markAll(t *testing.T) {
	t.Helper()
	for n := range b.r.Len() + 1 {
		_, err := b.mark(t, api.UnitRune, n)
		wantErr(t, "Mark", err, api.OK)
	}
}

func (b both) wantText(t *testing.T, want string) {
	t.Helper()
	if got := b.e.Text(); got != want {
		t.Errorf("the text is %q; want %q", got, want)
	}
}

func wantErr(t *testing.T, about any, got, want api.Errno) {
	t.Helper()
	if got != want {
		t.Errorf("%v: error %d; want %d", about, int(got), int(want))
	}
}

func encoded(t *testing.T, f api.Frame) []byte {
	t.Helper()
	data, err := frame.Encode(f)
	wantErr(t, "Encode", err, api.OK)
	return data
}

// pair is two editors of one world that have heard of each other.
func pair(t *testing.T, c api.Config, text string) (both, both) {
	t.Helper()
	a := found(t, c, text)
	a.join(t, 2)
	b := idle(t, 2, c)
	tell(t, a, b)
	return a, b
}

// tell lets one speak to the other, and both answer until nothing is left to say.
func tell(t *testing.T, from, to both) {
	t.Helper()
	out := from.draw(t, to.r.Sight().Site)
	for len(out) > 0 {
		var err api.Errno
		out, err = to.receive(t, out[0].Data)
		wantErr(t, "Receive", err, api.OK)
		from, to = to, from
	}
}

// wantZero: an answer has that error, and beside it only its zero value.
func wantZero(t *testing.T, about string, got any, err, want api.Errno) {
	t.Helper()
	v := reflect.ValueOf(got)
	if err != want || !v.IsZero() && !(v.Kind() == reflect.Slice && v.Len() == 0) {
		t.Errorf("%s: %+v, error %d; want error %d alone", about, got, int(err), int(want))
	}
}

func wantSameOp(t *testing.T, a, b api.Op) {
	t.Helper()
	if !reflect.DeepEqual(a, b) {
		t.Errorf("%+v; %+v", a, b)
	}
}

// rounds is how many of so many rounds are played.
func rounds(all int) int {
	if testing.Short() {
		return all / 8
	}
	return all
}
