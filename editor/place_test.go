package editor_test

import (
	"math"
	"strings"
	"testing"

	"hearsay/api"
)

// texts are what places are asked for in: runes of one to four bytes, pairs of UTF-16 units, letters of several runes, lines' ends of both widths.
var texts = []string{
	"", "a", "\u0303", "𝄞", "\r\n",
	"an\u0303𝄞z",
	"n\u0303\u0303\r\n𝄞\u0303é\r\r\n\nz",
	"€é𝄞𝄞\u0303a\n\u0303",
}

// numbers are those that a place may have in a text, and some about and far beyond them.
func numbers(text string) []int {
	l := []int{math.MinInt, math.MinInt + 1, -2}
	for n := -1; n <= len(text)+1; n++ {
		l = append(l, n)
	}
	return append(l, api.MaxTime, math.MaxInt-1, math.MaxInt)
}

var anyUnits = []int{api.UnitByte, api.UnitRune, api.UnitUTF16, api.UnitClump, 0, 5, -1, math.MaxInt, math.MinInt}

// TestSpot: P19.4, W1: each unit, and each that is none, at each number.
func TestSpot(t *testing.T) {
	for _, text := range texts {
		b := found(t, config, text)
		for _, unit := range anyUnits {
			for _, n := range numbers(text) {
				got, err := b.e.Spot(unit, n)
				want, wantErr := spotOf(text, unit, n)
				if got != want || err != wantErr {
					t.Errorf("Spot(%d, %d) of %q: %+v, error %d; want %+v, error %d", unit, n, text, got, int(err), want, int(wantErr))
				}
			}
		}
	}
}

// TestType: P19.1, P19.9, W1, W3: each unit, and each that is none, at each number; what is refused changes neither the text nor an anchor.
func TestType(t *testing.T) {
	typed := map[api.Errno]int{}
	for _, text := range texts {
		for _, unit := range anyUnits {
			for _, n := range numbers(text) {
				b := found(t, config, text)
				b.mark(t, api.UnitRune, b.r.Len())
				_, err := b.insert(t, unit, n, "x\u0303")
				typed[err]++
				if s, spotErr := spotOf(text, unit, n); err != spotErr {
					t.Errorf("Type(%d, %d): error %d; want %d", unit, n, int(err), int(spotErr))
				} else if err == api.OK {
					b.wantText(t, text[:s.Byte]+"x\u0303"+text[s.Byte:])
				} else {
					b.wantText(t, text)
				}
			}
		}
	}
	for _, err := range []api.Errno{api.OK, api.ErrArg, api.ErrIndex, api.ErrWithin} {
		if typed[err] == 0 {
			t.Errorf("error %d never came", int(err))
		}
	}
}

// TestTypeTexts: P19.1: texts that may be typed, and that may not.
func TestTypeTexts(t *testing.T) {
	for _, x := range []struct {
		text string
		want api.Errno
	}{
		{"", api.ErrText}, {"\xff", api.ErrText}, {"a\xed\xa0\x80", api.ErrText}, {"a\xe2\x82", api.ErrText},
		{"x", api.OK}, {"\x00", api.OK}, {"\uFFFD", api.OK},
		{strings.Repeat("𝄞", api.MaxText), api.OK}, {strings.Repeat("𝄞", api.MaxText+1), api.ErrLong},
		{strings.Repeat("x", api.MaxText+1), api.ErrLong}, {strings.Repeat("x", api.MaxText+1) + "\xff", api.ErrText},
	} {
		b := found(t, config, "ab")
		b.mark(t, api.UnitRune, 1)
		o, err := b.e.Type(api.UnitUTF16, 1, x.text)
		wantErr(t, x.text[:min(9, len(x.text))], err, x.want)
		if err != api.OK {
			wantZero(t, "Type", o, err, x.want)
			b.wantSame(t, "refused")
			continue
		}
		b.wantText(t, "a"+x.text+"b")
		if o.Text != x.text || o.Kind != api.OpInsert || o.Ref != (api.ID{Time: 1, Site: 1}) || o.ID != (api.ID{Time: 3, Site: 1}) {
			t.Errorf("%.40v", o)
		}
		b.wantRunes(t, "typed behind it", 1)
	}
}

// TestErase: P19.2, P19.9, W1, W3: places of each unit in both orders, each twice too, and places that are none.
func TestErase(t *testing.T) {
	erased := map[api.Errno]int{}
	for _, text := range []string{"", "n\u0303𝄞", "é\r\nz"} {
		for _, unit := range anyUnits {
			for _, from := range numbers(text) {
				for _, to := range numbers(text) {
					b := found(t, config, text)
					b.mark(t, api.UnitRune, b.r.Len())
					_, err := b.erase(t, unit, from, to)
					erased[err]++
					first, _ := spotOf(text, unit, from)
					second, _ := spotOf(text, unit, to)
					if err == api.OK {
						b.wantText(t, text[:first.Byte]+text[second.Byte:])
					} else {
						b.wantText(t, text)
					}
				}
			}
		}
	}
	for _, err := range []api.Errno{api.OK, api.ErrArg, api.ErrIndex, api.ErrWithin} {
		if erased[err] == 0 {
			t.Errorf("error %d never came", int(err))
		}
	}
}

// TestEraseOrder: P19.2, W4: the error of the first place comes ahead of that of the second one, and both ahead of their order.
func TestEraseOrder(t *testing.T) {
	b := found(t, config, "n\u0303𝄞z") // bytes: 1, 2, 4, 1
	for _, x := range []struct {
		unit, from, to int
		want           api.Errno
	}{
		{api.UnitByte, 2, 9, api.ErrWithin}, {api.UnitByte, 9, 2, api.ErrIndex}, {api.UnitByte, 2, -1, api.ErrWithin},
		{api.UnitByte, -1, 2, api.ErrIndex}, {api.UnitByte, 7, 2, api.ErrWithin}, {api.UnitByte, 5, 2, api.ErrWithin},
		{api.UnitByte, 3, 2, api.ErrWithin}, {api.UnitUTF16, 3, 9, api.ErrWithin}, {api.UnitUTF16, 9, 3, api.ErrIndex},
		{api.UnitUTF16, 4, 3, api.ErrWithin}, {api.UnitUTF16, 4, 4, api.ErrIndex}, {api.UnitUTF16, 4, 2, api.ErrIndex},
		{9, 9, 2, api.ErrArg}, {0, 0, 0, api.ErrArg}, {api.UnitClump, 3, 4, api.ErrIndex}, {api.UnitClump, 2, 2, api.ErrIndex},
		{api.UnitRune, math.MinInt, math.MaxInt, api.ErrIndex}, {api.UnitRune, 0, math.MaxInt, api.ErrIndex}, {api.UnitRune, 4, 0, api.ErrIndex},
	} {
		_, err := b.erase(t, x.unit, x.from, x.to)
		wantErr(t, x, err, x.want)
	}
	b.wantText(t, "n\u0303𝄞z")
}

// TestEraseRuns: P19.2, P18.3: elements of more runs than a delete may have are refused, and nothing has changed; so many as it may have go at once.
func TestEraseRuns(t *testing.T) {
	b := woken(t, config, nearFull(strings.Repeat("x", api.MaxGone+1), 9, 9))
	b.mark(t, api.UnitByte, api.MaxGone)
	b.mark(t, api.UnitByte, api.MaxGone+1)
	o, err := b.erase(t, api.UnitByte, 0, api.MaxGone+1)
	wantZero(t, "Erase", o, err, api.ErrLong)
	b.wantRunes(t, "refused", api.MaxGone, api.MaxGone+1)
	o, err = b.erase(t, api.UnitByte, 0, api.MaxGone)
	wantErr(t, "Erase", err, api.OK)
	if len(o.Gone) != api.MaxGone || b.e.Text() != "x" {
		t.Errorf("%d runs, %q is left", len(o.Gone), b.e.Text())
	}
	b.wantRunes(t, "all but the last one", 0, 1)
}

// TestOnePlace: P19.9, P0.10: what is done at a place of one unit is what is done at its Rune, of each place and unit.
func TestOnePlace(t *testing.T) {
	for _, text := range texts {
		for k := range len([]rune(text)) + 1 {
			s := spotAhead([]rune(text), k)
			for _, unit := range units {
				n := number(s, unit)
				same, _ := spotOf(text, unit, n) // of letters it may be an earlier place
				if unit != api.UnitClump && same != s {
					t.Fatalf("%+v, %+v", same, s)
				}
				a, b := found(t, config, text), found(t, config, text)
				one, _ := a.mark(t, unit, n)
				two, _ := b.mark(t, api.UnitRune, same.Rune)
				where, _ := a.e.Where(one)
				if other, _ := b.e.Where(two); where != same || other != same {
					t.Errorf("%+v, %+v; want %+v", where, other, same)
				}
				o, _ := a.insert(t, unit, n, "𝄞")
				p, _ := b.insert(t, api.UnitRune, same.Rune, "𝄞")
				wantSameOp(t, o, p)
				o, err := a.erase(t, unit, 0, n)
				p, errToo := b.erase(t, api.UnitRune, 0, same.Rune)
				if err == api.OK || errToo == api.OK {
					// Behind the typed one a letter may have come to be another one.
					if s, spotErr := spotOf(text[:same.Byte]+"𝄞"+text[same.Byte:], unit, n); spotErr != api.OK || s.Rune != same.Rune {
						continue
					}
				}
				wantErr(t, "Erase", err, errToo)
				wantSameOp(t, o, p)
				a.wantText(t, b.e.Text())
			}
		}
	}
}

// TestErasePairs: P19.9: of each two places, in each unit.
func TestErasePairs(t *testing.T) {
	for _, text := range texts {
		runes := []rune(text)
		for i := range len(runes) + 1 {
			for k := range len(runes) + 1 {
				from, to := spotAhead(runes, i), spotAhead(runes, k)
				for _, unit := range units {
					if unit == api.UnitClump && !(ends(runes, i) || i == 0) || unit == api.UnitClump && !(ends(runes, k) || k == 0) {
						continue
					}
					b := found(t, config, text)
					o, err := b.erase(t, unit, number(from, unit), number(to, unit))
					if i >= k {
						wantZero(t, "Erase", o, err, api.ErrIndex)
						continue
					}
					wantErr(t, "Erase", err, api.OK)
					b.wantText(t, string(runes[:i])+string(runes[k:]))
				}
			}
		}
	}
}
