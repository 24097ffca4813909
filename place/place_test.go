package place_test

import (
	"fmt"
	"math"
	"strings"
	"testing"
	"unicode/utf8"

	"hearsay/api"
	"hearsay/place"
)

var units = []int{api.UnitByte, api.UnitRune, api.UnitUTF16, api.UnitClump}

// noUnits is numbers that are none of the four.
var noUnits = []int{math.MinInt, math.MinInt32, -4, -1, 0, 5, 6, 260, math.MaxInt32, math.MaxInt}

// outside is numbers that are below 0 or above the length.
func outside(length int) []int {
	return []int{math.MinInt, math.MinInt + 1, math.MinInt32, -9, -1, length + 1, length + 2, length + 99, math.MaxInt32, math.MaxInt - 1, math.MaxInt}
}

func spot(b, r, u, c, line, column int) api.Spot {
	return api.Spot{Byte: b, Rune: r, Unit: u, Clump: c, Line: line, Column: column}
}

// fault is a spot of which nothing may be told.
func fault(err api.Errno) (api.Spot, api.Errno) { return api.Spot{}, err }

func wantAt(t *testing.T, m *place.Map, text string, unit, n int, want api.Spot, err api.Errno) {
	t.Helper()
	if got, e := m.At(unit, n); got != want || e != err {
		t.Errorf("%+q: At(%d, %d): %v, %d; want %v, %d", text, unit, n, got, e, want, err)
	}
}

func wantCell(t *testing.T, m *place.Map, text string, line, column int, want api.Spot, err api.Errno) {
	t.Helper()
	if got, e := m.Cell(line, column); got != want || e != err {
		t.Errorf("%+q: Cell(%d, %d): %v, %d; want %v, %d", text, line, column, got, e, want, err)
	}
}

func wantLen(t *testing.T, m *place.Map, text string, unit, want int, err api.Errno) {
	t.Helper()
	if got, e := m.Len(unit); got != want || e != err {
		t.Errorf("%+q: Len(%d): %d, %d; want %d, %d", text, unit, got, e, want, err)
	}
}

func wantLine(t *testing.T, m *place.Map, text string, n int, want string, err api.Errno) {
	t.Helper()
	if got, e := m.Line(n); got != want || e != err {
		t.Errorf("%+q: Line(%d): %+q, %d; want %+q, %d", text, n, got, e, want, err)
	}
}

// wantAll holds all that a Map answers against the text of which it is the map.
func wantAll(t *testing.T, m *place.Map, text string) {
	t.Helper()
	wantEveryAt(t, m, text)
	wantEveryCell(t, m, text)
	wantEveryLine(t, m, text)
	for unit, n := range numbers(last(spotsOf(text))) {
		wantLen(t, m, text, unit, n, api.OK)
	}
	for _, unit := range noUnits {
		wantLen(t, m, text, unit, 0, api.ErrArg)
	}
}

func last(l []api.Spot) api.Spot { return l[len(l)-1] }

// wantEveryAt asks At of all units and numbers, and of others.
func wantEveryAt(t *testing.T, m *place.Map, text string) {
	t.Helper()
	spots := spotsOf(text)
	for _, unit := range units {
		length := numbers(last(spots))[unit]
		for n := range length + 1 {
			want, err := fault(api.ErrWithin)
			for _, s := range spots {
				if numbers(s)[unit] == n {
					want, err = s, api.OK
					break
				}
			}
			wantAt(t, m, text, unit, n, want, err)
		}
		for _, n := range outside(length) {
			wantAt(t, m, text, unit, n, api.Spot{}, api.ErrIndex)
		}
	}
	for _, unit := range noUnits {
		for _, n := range append(outside(len(text)), 0, 1, len(text)) {
			wantAt(t, m, text, unit, n, api.Spot{}, api.ErrArg)
		}
	}
}

// wantEveryCell asks Cell of all lines and columns, and of others.
func wantEveryCell(t *testing.T, m *place.Map, text string) {
	t.Helper()
	spots, lines := spotsOf(text), rows(text)
	at := map[int]api.Spot{}
	for _, s := range spots {
		at[s.Byte] = s
	}
	for i, l := range lines {
		column := 1
		for _, in := range piecesAt(l.text) {
			wantCell(t, m, text, i+1, column, at[l.at+in], api.OK)
			column++
		}
		for _, c := range append(outside(column-1), 0) {
			wantCell(t, m, text, i+1, c, api.Spot{}, api.ErrIndex)
		}
	}
	for _, n := range append(outside(len(lines)), 0) {
		for _, c := range append(outside(1), 0, 1) {
			wantCell(t, m, text, n, c, api.Spot{}, api.ErrIndex)
		}
	}
}

// wantEveryLine asks Lines, and Line of all numbers and of others.
func wantEveryLine(t *testing.T, m *place.Map, text string) {
	t.Helper()
	lines := rows(text)
	if got := m.Lines(); got != len(lines) {
		t.Errorf("%+q: Lines(): %d; want %d", text, got, len(lines))
	}
	for i, l := range lines {
		wantLine(t, m, text, i+1, l.text+l.end, api.OK)
	}
	for _, n := range append(outside(len(lines)), 0) {
		wantLine(t, m, text, n, "", api.ErrIndex)
	}
}

// TestExamples: all rows of the chapter's examples.
func TestExamples(t *testing.T) {
	m := place.New(example)
	for _, x := range []struct {
		unit, n int
		want    api.Spot
		err     api.Errno
	}{
		{api.UnitByte, 4, spot(4, 3, 3, 2, 1, 4), api.OK},
		{api.UnitRune, 2, spot(2, 2, 2, 1, 1, 3), api.OK},
		{api.UnitClump, 2, spot(4, 3, 3, 2, 1, 4), api.OK},
		{api.UnitByte, 3, api.Spot{}, api.ErrWithin},
		{api.UnitUTF16, 6, api.Spot{}, api.ErrWithin},
		{api.UnitByte, 12, api.Spot{}, api.ErrIndex},
		{5, 0, api.Spot{}, api.ErrArg},
		{api.UnitRune, -1, api.Spot{}, api.ErrIndex},
		{api.UnitByte, 5, spot(5, 4, 4, 2, 1, 5), api.OK},
		{api.UnitByte, 6, spot(6, 5, 5, 3, 2, 1), api.OK},
		{api.UnitUTF16, 7, spot(10, 6, 7, 4, 2, 2), api.OK},
		{api.UnitUTF16, 8, spot(11, 7, 8, 5, 2, 3), api.OK},
	} {
		wantAt(t, m, example, x.unit, x.n, x.want, x.err)
	}
	wantCell(t, m, example, 1, 4, spot(4, 3, 3, 2, 1, 4), api.OK)
	wantCell(t, m, example, 1, 5, api.Spot{}, api.ErrIndex)
	wantCell(t, m, example, 2, 3, spot(11, 7, 8, 5, 2, 3), api.OK)
	wantCell(t, m, example, 2, 4, api.Spot{}, api.ErrIndex)
	wantCell(t, m, example, 3, 1, api.Spot{}, api.ErrIndex)
	for unit, n := range map[int]int{api.UnitByte: 11, api.UnitRune: 7, api.UnitUTF16: 8, api.UnitClump: 5} {
		wantLen(t, m, example, unit, n, api.OK)
	}
	if n := m.Lines(); n != 2 {
		t.Errorf("Lines(): %d; want 2", n)
	}
	wantLine(t, m, example, 1, example[:6], api.OK)
	wantLine(t, m, example, 2, example[6:], api.OK)
	wantLine(t, m, example, 0, "", api.ErrIndex)
	m = place.New("\x0a\x0d\x0d\x0a")
	if n := m.Lines(); n != 4 {
		t.Errorf("Lines() of 0a 0d 0d 0a: %d; want 4", n)
	}
	wantLine(t, m, "0a 0d 0d 0a", 2, "\r", api.OK)
	wantLine(t, m, "0a 0d 0d 0a", 4, "", api.OK)
}

// TestAll: P3.1 to P3.4, of all those texts, each unit at every number, every line and every column.
func TestAll(t *testing.T) {
	for text := range texts {
		wantAll(t, place.New(text), text)
		if t.Failed() {
			return
		}
	}
}

// TestEmpty: P3.1, a zero Map is that of the empty text.
func TestEmpty(t *testing.T) {
	var zero place.Map
	for _, m := range []*place.Map{place.New(""), &zero, new(place.Map)} {
		wantAll(t, m, "")
		for _, unit := range units {
			wantAt(t, m, "", unit, 0, spot(0, 0, 0, 0, 1, 1), api.OK)
			wantAt(t, m, "", unit, 1, api.Spot{}, api.ErrIndex)
			wantLen(t, m, "", unit, 0, api.OK)
		}
		wantCell(t, m, "", 1, 1, spot(0, 0, 0, 0, 1, 1), api.OK)
		wantLine(t, m, "", 1, "", api.OK)
		wantLine(t, m, "", 2, "", api.ErrIndex)
		if n := m.Lines(); n != 1 {
			t.Errorf("Lines() of the empty text: %d; want 1", n)
		}
	}
}

// TestWithin: P3.2, numbers within a piece and between the two units of one; units that are none come ahead of all else.
func TestWithin(t *testing.T) {
	text := "é\uffff\U00010000\xe2\x82"
	m := place.New(text)
	for n, ok := range []bool{true, false, true, false, false, true, false, false, false, true, true, true} {
		_, err := m.At(api.UnitByte, n)
		if want := within(ok); err != want {
			t.Errorf("At(UnitByte, %d): %d; want %d", n, err, want)
		}
		wantAt(t, m, text, 0, n, api.Spot{}, api.ErrArg)
	}
	for n, ok := range []bool{true, true, true, false, true, true, true} {
		_, err := m.At(api.UnitUTF16, n)
		if want := within(ok); err != want {
			t.Errorf("At(UnitUTF16, %d): %d; want %d", n, err, want)
		}
	}
}

// within is what At answers at a place, and within a piece.
func within(ok bool) api.Errno {
	if ok {
		return api.OK
	}
	return api.ErrWithin
}

// TestClumpEnds: P3.2, a number of clumps leads to where the last of them ends, not to a place within the next one.
func TestClumpEnds(t *testing.T) {
	text := "e\u0301\u0301\r\n\U0001f1e6\U0001f1e6\U0001f1e6"
	m := place.New(text)
	for n, at := range []int{0, 5, 7, 15, 19} {
		if s, err := m.At(api.UnitClump, n); s.Byte != at || s.Clump != n || err != api.OK {
			t.Errorf("At(UnitClump, %d): %v, %d; want byte %d", n, s, err, at)
		}
	}
}

// TestEnds: P3.3, P3.4, which bytes end a line, and which end comes with which line.
func TestEnds(t *testing.T) {
	for _, lines := range [][]string{
		{"a\n", "b"}, {"a\r", "b"}, {"a\r\n", "b"}, {"a\n", "\r", "b"}, {"\n", "\r", "\r\n", ""}, {"\r\n", "\n", ""}, {"\r", "\r\n", "\n", ""},
		{"\r\n", "\r\n", ""}, {"\n", "\n", ""}, {"\r", "\r", ""}, {"\r", "a\n", ""}, {"\u2028\u2029\u0085\v\f"}, {"\r", "\u0301\n", "\u0301"}, {"\xff\r", "\xff\n", "\xff"},
	} {
		text := strings.Join(lines, "")
		m := place.New(text)
		if n := m.Lines(); n != len(lines) {
			t.Errorf("%+q: Lines(): %d; want %d", text, n, len(lines))
		}
		for i, l := range lines {
			wantLine(t, m, text, i+1, l, api.OK)
			whole := utf8.RuneCountInString(strings.TrimRight(l, "\r\n"))
			if s, err := m.Cell(i+1, whole+1); s.Column != whole+1 || err != api.OK {
				t.Errorf("%+q: Cell(%d, %d): %v, %d", text, i+1, whole+1, s, err)
			}
			wantCell(t, m, text, i+1, whole+2, api.Spot{}, api.ErrIndex)
		}
	}
}

// TestBetween: P3.3, the place between 0d and 0a is no cell, though it has a line and a column.
func TestBetween(t *testing.T) {
	for _, x := range []struct {
		text string
		want api.Spot
	}{
		{"\r\n", spot(1, 1, 1, 0, 1, 2)},
		{"ab\r\nc", spot(3, 3, 3, 2, 1, 4)},
		{"\n\r\n", spot(2, 2, 2, 1, 2, 2)},
		{"\r\r\n", spot(2, 2, 2, 1, 2, 2)},
		{"a\r\n\r\n", spot(4, 4, 4, 2, 2, 2)},
	} {
		m := place.New(x.text)
		wantAt(t, m, x.text, api.UnitByte, x.want.Byte, x.want, api.OK)
		wantCell(t, m, x.text, x.want.Line, x.want.Column, api.Spot{}, api.ErrIndex)
	}
}

// TestNil: P3.5, at every number.
func TestNil(t *testing.T) {
	var m *place.Map
	for _, unit := range append(units, noUnits...) {
		wantLen(t, m, "nil", unit, 0, api.ErrArg)
		for _, n := range append(outside(0), 0, 1) {
			wantAt(t, m, "nil", unit, n, api.Spot{}, api.ErrArg)
		}
	}
	for _, n := range append(outside(0), 0, 1) {
		wantLine(t, m, "nil", n, "", api.ErrArg)
		for _, c := range append(outside(0), 0, 1) {
			wantCell(t, m, "nil", n, c, api.Spot{}, api.ErrArg)
		}
	}
	if n := m.Lines(); n != 0 {
		t.Errorf("Lines() of nil: %d", n)
	}
}

// places is the spots that a Map answers, in their order.
func places(m *place.Map) []api.Spot {
	var l []api.Spot
	n, _ := m.Len(api.UnitRune)
	for i := range n + 1 {
		s, _ := m.At(api.UnitRune, i)
		l = append(l, s)
	}
	return l
}

// TestLeadBack: P3.6, each number of a spot leads to it, that of clumps to the last break.
func TestLeadBack(t *testing.T) {
	for text := range texts {
		m := place.New(text)
		var broken api.Spot
		for i, s := range places(m) {
			if i == 0 || s.Clump > broken.Clump {
				broken = s
			}
			wantAt(t, m, text, api.UnitByte, s.Byte, s, api.OK)
			wantAt(t, m, text, api.UnitRune, s.Rune, s, api.OK)
			wantAt(t, m, text, api.UnitUTF16, s.Unit, s, api.OK)
			wantAt(t, m, text, api.UnitClump, s.Clump, broken, api.OK)
			if strings.HasSuffix(text[:s.Byte], "\r") && strings.HasPrefix(text[s.Byte:], "\n") {
				wantCell(t, m, text, s.Line, s.Column, api.Spot{}, api.ErrIndex)
			} else {
				wantCell(t, m, text, s.Line, s.Column, s, api.OK)
			}
		}
		if t.Failed() {
			return
		}
	}
}

// rises tells whether a place is further than another one in all that P3.7 names.
func rises(a, b api.Spot) bool {
	return a.Byte < b.Byte && a.Rune < b.Rune && a.Unit < b.Unit && a.Clump <= b.Clump &&
		(a.Line < b.Line || a.Line == b.Line && a.Column < b.Column)
}

// TestRise: P3.7.
func TestRise(t *testing.T) {
	for text := range texts {
		l := places(place.New(text))
		for i := range len(l) - 1 {
			if !rises(l[i], l[i+1]) {
				t.Fatalf("%+q: %v, then %v", text, l[i], l[i+1])
			}
		}
	}
}

// TestTogether: P3.8, the lines are the text; the wider a unit, the fewer there are.
func TestTogether(t *testing.T) {
	for text := range texts {
		m := place.New(text)
		var b strings.Builder
		for i := range m.Lines() {
			line, _ := m.Line(i + 1)
			b.WriteString(line)
		}
		if b.String() != text {
			t.Fatalf("%+q: its lines are %+q", text, b.String())
		}
		n := map[int]int{}
		for _, unit := range units {
			n[unit], _ = m.Len(unit)
		}
		if n[api.UnitClump] > n[api.UnitRune] || n[api.UnitRune] > n[api.UnitUTF16] || n[api.UnitUTF16] > n[api.UnitByte] || n[api.UnitByte] != len(text) {
			t.Fatalf("%+q: %v", text, n)
		}
	}
}

// TestApart: P3.9, Maps that are used in turns, of one text and of others, and a Map that was copied as a value.
func TestApart(t *testing.T) {
	var maps []*place.Map
	for _, text := range known {
		maps = append(maps, place.New(text))
	}
	again := place.New(string([]byte(example)))
	for range 2 {
		for i, text := range known {
			wantAll(t, maps[i], text)
			wantAll(t, maps[len(known)-1-i], known[len(known)-1-i])
			wantAll(t, again, example)
		}
	}
	copied := *again
	wantAll(t, &copied, example)
}

// TestOrder: P3.9, what was asked ahead changes nothing, wrong calls neither.
func TestOrder(t *testing.T) {
	m := place.New(example)
	for _, first := range []func(){
		func() { m.At(api.UnitByte, 3) }, func() { m.At(9, 9) }, func() { m.At(api.UnitUTF16, 8) }, func() { m.Cell(2, 3) },
		func() { m.Cell(0, 0) }, func() { m.Len(0) }, func() { m.Line(2) }, func() { m.Line(99) }, func() { m.Lines() },
	} {
		first()
		wantAll(t, m, example)
	}
}

// TestKeepsNothing: P3.9 and W6, the bytes that a text was made of are no business of its Map.
func TestKeepsNothing(t *testing.T) {
	room := []byte(example)
	m := place.New(string(room))
	for i := range room {
		room[i] = '\n'
	}
	wantAll(t, m, example)
	s, _ := m.At(api.UnitByte, 4)
	s.Byte, s.Line = 99, 99
	wantAll(t, m, example)
}

// TestLong: W1, texts of many pieces, of which many places are asked.
func TestLong(t *testing.T) {
	const times = 1 << 18
	for _, x := range []struct {
		part string
		want api.Spot // of a text of the part alone
	}{
		{"a", spot(1, 1, 1, 1, 1, 2)}, {"\n", spot(1, 1, 1, 1, 2, 1)}, {"\r\n", spot(2, 2, 2, 1, 2, 1)}, {"a\u0301\r", spot(4, 3, 3, 2, 2, 1)},
		{"\U0001f1e6\U0001f1e6", spot(8, 2, 4, 1, 1, 3)}, {"\xf0\x9d\x84", spot(3, 3, 3, 3, 1, 4)}, {"\xe2\x82\n\r", spot(4, 4, 4, 4, 3, 1)},
	} {
		m := place.New(strings.Repeat(x.part, times))
		name := fmt.Sprintf("%d times %+q", times, x.part)
		for _, n := range []int{1, 2, times / 2, times - 1, times} {
			want := spot(x.want.Byte*n, x.want.Rune*n, x.want.Unit*n, x.want.Clump*n, (x.want.Line-1)*n+1, (x.want.Column-1)*n+1)
			for unit, number := range numbers(want) {
				wantAt(t, m, name, unit, number, want, api.OK)
			}
			wantCell(t, m, name, want.Line, want.Column, want, api.OK)
		}
		for n := range times * len(x.part) {
			m.At(api.UnitByte, n)
			m.Cell(n, 1)
			m.Line(n)
		}
	}
}

// TestLongClump: W1, one clump of very many pieces.
func TestLongClump(t *testing.T) {
	const marks = 1 << 19
	m := place.New("e" + strings.Repeat("\u0301", marks) + "x")
	wantAt(t, m, "e^..^x", api.UnitClump, 1, spot(1+2*marks, 1+marks, 1+marks, 1, 1, 2+marks), api.OK)
	wantAt(t, m, "e^..^x", api.UnitRune, marks, spot(2*marks-1, marks, marks, 0, 1, 1+marks), api.OK)
}
