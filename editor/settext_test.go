package editor_test

import (
	"math/rand"
	"strings"
	"testing"
	"unicode/utf8"

	"hearsay/api"
)

// kinds is the kinds of operations, a letter each.
func kinds(ops []api.Op) string {
	s := ""
	for _, o := range ops {
		s += string("?id"[min(o.Kind, 2)])
	}
	return s
}

// TestSetText: P19.3, P19.8: what the operations of known texts are, in their order.
func TestSetText(t *testing.T) {
	for _, x := range []struct {
		from, to, kinds string
		laid            []string
	}{
		{"", "", "", nil},
		{"héy", "héy", "", nil},
		{"", "héy", "i", []string{"héy"}},
		{"héy", "", "d", nil},
		{"héy", "abc", "di", []string{"abc"}},
		{"abc", "xbz", "didi", []string{"x", "z"}},
		{"ab", "ba", "di", []string{"a"}},
		{"kitten", "sitting", "didii", []string{"s", "i", "g"}},
		{"n\u0303𝄞z", "n𝄞\u0303z", "di", []string{"\u0303"}},
		{"abcdef", "bdf", "ddd", nil},
		{"bdf", "abcdefg", "iiii", []string{"a", "c", "e", "g"}},
		{"a\r\nb", "a\nb", "d", nil},
		{"aaaa", "aa", "d", nil},
	} {
		b := found(t, config, x.from)
		b.markAll(t)
		ops, err := b.setText(t, x.to)
		wantErr(t, x, err, api.OK)
		if kinds(ops) != x.kinds {
			t.Errorf("%q to %q: %s; want %s", x.from, x.to, kinds(ops), x.kinds)
		}
		var laid []string
		for i, o := range ops {
			if o.Kind == api.OpInsert {
				laid = append(laid, o.Text)
			}
			if o.Dot.Site != 1 || i > 0 && o.Dot.Seq != ops[i-1].Dot.Seq+1 {
				t.Errorf("%v behind %v", o.Dot, ops[max(0, i-1)].Dot)
			}
		}
		if strings.Join(laid, "|") != strings.Join(x.laid, "|") {
			t.Errorf("%q to %q lays %q; want %q", x.from, x.to, laid, x.laid)
		}
		b.wantText(t, x.to)
		log := b.r.Image().Log
		for i, o := range ops {
			wantSameOp(t, o, log[len(log)-len(ops)+i])
		}
	}
}

// allTexts is all texts of some runes that have at most so many.
func allTexts(runes string, most int) []string {
	all := []string{""}
	last := all
	for range most {
		var next []string
		for _, s := range last {
			for _, r := range runes {
				next = append(next, s+string(r))
			}
		}
		all = append(all, next...)
		last = next
	}
	return all
}

// TestSetTextAll: P19.3, P19.6, P19.8, P0.10: all short texts from all short texts, with an anchor at each place.
func TestSetTextAll(t *testing.T) {
	texts := allTexts("aé𝄞", 3)
	for _, from := range texts {
		for _, to := range texts {
			b := found(t, config, from)
			b.markAll(t)
			_, err := b.setText(t, to)
			wantErr(t, "SetText", err, api.OK)
			if len([]rune(from)) == 3 && len([]rune(to)) == 3 {
				// Once more, as what goes and comes leaves something behind in the document.
				_, err = b.setText(t, from)
				wantErr(t, "back", err, api.OK)
			}
		}
	}
}

// TestSetTextRandom: P19.3, P19.6, P19.8: longer texts, one from the other, with anchors that are there all the while.
func TestSetTextRandom(t *testing.T) {
	for seed := range rounds(60) {
		rng := rand.New(rand.NewSource(int64(seed)))
		b := found(t, keeping(rng.Intn(20)), "")
		for k := range 12 {
			runes := []rune("abé𝄞\u0303\n")[:2+rng.Intn(5)]
			text := ""
			for range rng.Intn(60) {
				text += string(runes[rng.Intn(len(runes))])
			}
			_, err := b.setText(t, text)
			wantErr(t, "SetText", err, api.OK)
			b.mark(t, api.UnitRune, rng.Intn(b.r.Len()+1))
			if k%4 == 3 {
				b.unmark(t, 1+rng.Intn(k))
			}
		}
	}
}

// TestSetTextLong: P19.3: MaxDiff runes may be compared, be they new or shown, and one more may not.
func TestSetTextLong(t *testing.T) {
	full, other := strings.Repeat("𝄞", api.MaxDiff), strings.Repeat("é", api.MaxDiff)
	b := found(t, config, "a")
	b.markAll(t)
	_, err := b.setText(t, full+"𝄞")
	wantErr(t, "one more", err, api.ErrLong)
	b.wantText(t, "a")
	ops, err := b.setText(t, full)
	if kinds(ops) != "di" || err != api.OK {
		t.Errorf("%s, error %d", kinds(ops), int(err))
	}
	ops, err = b.setText(t, other)
	if kinds(ops) != "di" || weight(ops) != 2*api.MaxDiff || err != api.OK {
		t.Errorf("%s, error %d", kinds(ops), int(err))
	}
	ops, err = b.setText(t, other)
	if len(ops) > 0 || err != api.OK {
		t.Errorf("%s, error %d", kinds(ops), int(err))
	}
	b.wantRunes(t, "all gone", 0, 0)
	b.insert(t, api.UnitRune, 7, "é")
	for _, text := range []string{"", other, other + "é", "x"} {
		_, err = b.setText(t, text)
		wantErr(t, "one more is shown", err, api.ErrLong)
	}
	b.wantText(t, other+"é")
	b.erase(t, api.UnitRune, 0, 1)
	_, err = b.setText(t, "")
	wantErr(t, "MaxDiff are shown", err, api.OK)
	b.wantText(t, "")
}

// TestSetTextMany: P19.3, P19.8: every other rune goes and another one comes: twice as many operations as stay, each at its place.
func TestSetTextMany(t *testing.T) {
	const half = api.MaxDiff / 2
	b := found(t, keeping(3), strings.Repeat("ab", half))
	for n := range 9 {
		b.mark(t, api.UnitRune, n*50)
	}
	ops, err := b.setText(t, strings.Repeat("aé", half))
	if kinds(ops) != strings.Repeat("di", half) || err != api.OK {
		t.Errorf("%s, error %d", kinds(ops), int(err))
	}
	for k, o := range ops {
		if k%2 == 0 && (len(o.Gone) != 1 || o.Gone[0] != (api.Run{ID: api.ID{Time: k + 2, Site: 1}, Count: 1})) {
			t.Fatalf("%d: %+v", k, o)
		}
		if k%2 == 1 && (o.Text != "é" || o.Ref != (api.ID{Time: k, Site: 1})) {
			t.Fatalf("%d: %+v", k, o)
		}
	}
	b.wantRunes(t, "b gone, é behind", 0, 49, 99, 149, 199, 249, 299, 349, 399)
}

// TestSetTextFull: P19.3: just so many Seqs and times as it needs are enough; one less of either is not, and then nothing has changed.
func TestSetTextFull(t *testing.T) {
	for _, x := range []struct {
		from, to    string
		seqs, times int
	}{
		{"abc", "abc", 0, 0}, {"abc", "", 1, 0}, {"abc", "b", 2, 0}, {"", "é𝄞", 1, 2}, {"abc", "xbz", 4, 2},
		{"abc", "xyz", 2, 3}, {"kitten", "sitting", 5, 3}, {"ab", "ba", 2, 1}, {"", strings.Repeat("x", api.MaxDiff), 1, api.MaxDiff},
		{strings.Repeat("ab", 50), strings.Repeat("aéé", 50), 100, 100},
	} {
		for seqs := x.seqs; seqs >= 0 && seqs >= x.seqs-1; seqs-- {
			for times := x.times; times >= 0 && times >= x.times-1; times-- {
				b := woken(t, config, nearFull(x.from, seqs, times))
				b.mark(t, api.UnitRune, utf8.RuneCountInString(x.from))
				ops, err := b.setText(t, x.to)
				if seqs < x.seqs || times < x.times {
					wantZero(t, "SetText", ops, err, api.ErrFull)
					b.wantText(t, x.from)
					b.wantRunes(t, "refused", utf8.RuneCountInString(x.from))
					continue
				}
				wantErr(t, "SetText", err, api.OK)
				b.wantText(t, x.to)
				s := b.r.Sight()
				if len(ops) != x.seqs || s.Vector[1].Seq != api.MaxSeq || s.Clock != api.MaxTime {
					t.Errorf("%q to %q: %d operations, %v, clock %d", x.from, x.to, len(ops), s.Vector, s.Clock)
				}
			}
		}
	}
}

// TestSetTextOthers: P19.3, P19.8: what another site has laid goes and stays like the own.
func TestSetTextOthers(t *testing.T) {
	a, b := pair(t, config, "abc")
	b.insert(t, api.UnitRune, 3, "def")
	b.insert(t, api.UnitRune, 0, "𝄞")
	tell(t, b, a)
	a.markAll(t)
	b.markAll(t)
	_, err := a.setText(t, "𝄞acef!")
	wantErr(t, "SetText", err, api.OK)
	tell(t, a, b)
	b.wantText(t, "𝄞acef!")
	b.wantRunes(t, "b and d gone", 0, 1, 2, 2, 3, 3, 4, 5)
	a.wantRunes(t, "b and d gone", 0, 1, 2, 2, 3, 3, 4, 5)
	if ops, err := b.setText(t, ""); kinds(ops) != "d" || err != api.OK {
		t.Errorf("%s, error %d", kinds(ops), int(err))
	}
	tell(t, b, a)
	a.wantText(t, "")
	a.wantRunes(t, "all gone", 0, 0, 0, 0, 0, 0, 0, 0)
}
