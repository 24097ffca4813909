package net_test

import (
	"fmt"
	"math"
	"slices"
	"strings"
	"testing"

	"hearsay/api"
	"hearsay/net"
)

// TestExamples: all rows of the chapter's examples.
func TestExamples(t *testing.T) {
	b := begun(t)
	b.mustSend(t, "abc", 1)
	for _, x := range []struct {
		from, to, step int
	}{{2, 2, 7}, {1, 2, -1}} {
		num, err := b.send(t, x.from, x.to, "", x.step)
		wantErr(t, x, err, api.ErrArg)
		if num != 0 {
			t.Errorf("%v: %d", x, num)
		}
	}
	for _, x := range []struct {
		at   int
		by   string
		want api.Errno
	}{{1, "b", api.ErrArg}, {2, "cd", api.ErrArg}, {1, "", api.ErrArg}, {1, "z", api.OK}, {0, "z", api.ErrExists}} {
		wantErr(t, x, b.alter(t, 1, x.at, x.by), x.want)
	}
	wantErr(t, "Cut to 2", b.cut(t, 1, 2), api.ErrExists)
	wantErr(t, "Cut to 3", b.cut(t, 1, 3), api.ErrArg)
	b.mustDouble(t, 1, 2)
	b.wantCopies(t, seen{1, 1, 2, "azc", 7, true}, seen{2, 1, 2, "abc", 7, false})
	wantErr(t, "Cut of 2 to nothing", b.cut(t, 2, 0), api.OK)
	s, err := b.deliver(t, 2)
	wantErr(t, "Deliver", err, api.OK)
	if s != (seen{2, 1, 2, "", 7, true}) {
		t.Errorf("delivered: %v", s)
	}
	_, err = b.deliver(t, 2)
	wantErr(t, "Deliver once more", err, api.ErrNone)
	s, err = b.drop(t, 1)
	wantErr(t, "Drop", err, api.OK)
	if s != (seen{1, 1, 2, "azc", 7, true}) {
		t.Errorf("dropped: %v", s)
	}
	b.wantCopies(t)
	num, err := b.send(t, 3, 1, "", 0)
	wantErr(t, "Send", err, api.OK)
	if num != 3 {
		t.Errorf("Send: %d", num)
	}
	b.wantCopies(t, seen{3, 3, 1, "", 0, false})
}

// TestNew: P20.1, W8: a new network, and a zero one, have no copy, know no number, and are taken up alike.
func TestNew(t *testing.T) {
	for _, n := range []*net.Net{net.New(), {}, new(net.Net)} {
		b := both{n, &model{}}
		b.wantCopies(t)
		for _, num := range edges {
			b.wantNone(t, num)
		}
		b.mustSend(t, "hello", 1)
		b.mustDouble(t, 1, 2)
		wantErr(t, "Alter", b.alter(t, 1, 0, "j"), api.OK)
		wantErr(t, "Cut", b.cut(t, 2, 4), api.OK)
		b.wantCopies(t, seen{1, 1, 2, "jello", 7, true}, seen{2, 1, 2, "hell", 7, true})
	}
	if one, two := net.New(), net.New(); one == two {
		t.Error("two new networks are one")
	}
	one, two := begun(t), begun(t)
	one.mustSend(t, "one", 1)
	two.wantCopies(t)
	two.mustSend(t, "two", 1)
	one.wantCopies(t, seen{1, 1, 2, "one", 7, false})
}

// TestNil: W1, W8: to a nil network nothing happens: it answers ErrArg, ahead of all other errors.
func TestNil(t *testing.T) {
	var n *net.Net
	for _, num := range edges {
		for _, x := range edges {
			sent, err := n.Send(num, x, []byte("data"), 0)
			wantErr(t, "Send", err, api.ErrArg)
			wantErr(t, "Alter", n.Alter(num, x, []byte("x")), api.ErrArg)
			wantErr(t, "Cut", n.Cut(num, x), api.ErrArg)
			if sent != 0 {
				t.Errorf("Send: %d", sent)
			}
		}
		delivered, err := n.Deliver(num)
		wantErr(t, "Deliver", err, api.ErrArg)
		dropped, err := n.Drop(num)
		wantErr(t, "Drop", err, api.ErrArg)
		doubled, err := n.Double(num)
		wantErr(t, "Double", err, api.ErrArg)
		if kept(delivered) != (seen{}) || kept(dropped) != (seen{}) || doubled != 0 {
			t.Errorf("%d: %v %v %d", num, delivered, dropped, doubled)
		}
	}
	sent, err := n.Send(1, 2, nil, 0)
	wantErr(t, "a right Send", err, api.ErrArg)
	if sent != 0 || len(n.Copies()) != 0 {
		t.Errorf("%d, %v", sent, n.Copies())
	}
}

// TestSendSites: P20.2: each two sites, and numbers that are none.
func TestSendSites(t *testing.T) {
	b := begun(t)
	next := 1
	numbers := slices.Concat(edges, []int{9, 10, 11, 12, 13, 14})
	for _, from := range numbers {
		for _, to := range numbers {
			right := from > 0 && from < 17 && to > 0 && to < 17 && from != to
			num, err := b.send(t, from, to, "x", 5)
			if right && (num != next || err != api.OK) || !right && (num != 0 || err != api.ErrArg) {
				t.Fatalf("from %d to %d: %d, error %d; the next number is %d", from, to, num, int(err), next)
			}
			if right {
				next++
			}
		}
	}
	b.wantNet(t)
	if next != 1+16*15 {
		t.Errorf("%d were sent", next-1)
	}
	for _, x := range []struct {
		from, to int
		want     api.Errno
	}{
		{1, 16, api.OK}, {16, 1, api.OK}, {0, 1, api.ErrArg}, {1, 0, api.ErrArg}, {17, 1, api.ErrArg}, {1, 17, api.ErrArg}, {-1, 1, api.ErrArg}, {1, -1, api.ErrArg},
		{1, 1, api.ErrArg}, {16, 16, api.ErrArg}, {8, 8, api.ErrArg}, {0, 0, api.ErrArg}, {17, 17, api.ErrArg},
	} {
		_, err := b.send(t, x.from, x.to, "x", 5)
		wantErr(t, x, err, x.want)
	}
	b.wantNet(t)
}

// TestSendSteps: P20.2: steps of any number, which the copy and its double have as Sent.
func TestSendSteps(t *testing.T) {
	for _, step := range edges {
		b := begun(t)
		num, err := b.send(t, 3, 4, "xy", step)
		if step < 0 {
			wantErr(t, step, err, api.ErrArg)
			b.wantCopies(t)
			b.mustSend(t, "", 1)
			continue
		}
		wantErr(t, step, err, api.OK)
		b.mustDouble(t, num, 2)
		b.wantCopies(t, seen{1, 3, 4, "xy", step, false}, seen{2, 3, 4, "xy", step, false})
	}
}

// TestSendBytes: P20.1, P20.2: any bytes, none, nil and many; the copy has just these, however it is taken.
func TestSendBytes(t *testing.T) {
	every := make([]byte, 256)
	for i := range every {
		every[i] = byte(i)
	}
	texts := []string{"", "\x00", "a", "abcd", "abcde", "a\xff\x00\xc3é", string(every), strings.Repeat(string(every), 5000)}
	b := begun(t)
	for i, data := range texts {
		b.mustSend(t, data, i+1)
	}
	b.wantNet(t)
	for i, data := range texts {
		take := b.deliver
		if i%2 == 0 {
			take = b.drop
		}
		if s, err := take(t, i+1); err != api.OK || s != (seen{i + 1, 1, 2, data, 7, false}) {
			t.Errorf("%d bytes: %v, error %d", len(data), s, int(err))
		}
		b.wantNet(t)
	}
	n := net.New()
	for _, nothing := range [][]byte{nil, {}, every[:0], every[256:]} {
		num, err := n.Send(1, 2, nothing, 0)
		wantErr(t, "Send of nothing", err, api.OK)
		wantErr(t, "Cut of nothing", n.Cut(num, 0), api.ErrArg)
		wantErr(t, "Alter of nothing", n.Alter(num, 0, []byte("x")), api.ErrArg)
		c, err := n.Deliver(num)
		wantErr(t, "Deliver of nothing", err, api.OK)
		if len(c.Data) != 0 || c.Bad || c.Num != num {
			t.Errorf("of nothing: %v", c)
		}
	}
}

// TestNumbers: P20.1: numbers go from 1 on, by Send and by Double alike, each is used once, behind Deliver and Drop too, also when nothing is left under way; what is refused uses none.
func TestNumbers(t *testing.T) {
	b := begun(t)
	next := 1
	for range 30 {
		b.mustSend(t, "abc", next)
		b.mustDouble(t, next, next+1)
		b.mustDouble(t, next+1, next+2)
		b.send(t, 0, 1, "x", 0)
		b.double(t, next+3)
		b.deliver(t, next+3)
		b.deliver(t, next+2)
		b.mustSend(t, "d", next+3)
		b.drop(t, next+3)
		b.wantNone(t, next+3)
		b.drop(t, next)
		b.deliver(t, next+1)
		b.wantCopies(t)
		next += 4
	}
	for num := range next {
		b.wantNone(t, num)
	}
}

// wantNone holds each call of a number of which no copy is under way against what it must answer: nothing but the error; and nothing changes.
func (b both) wantNone(t *testing.T, num int) {
	t.Helper()
	before := b.model.copies()
	delivered, err := b.net.Deliver(num)
	wantErr(t, "Deliver", err, api.ErrNone)
	dropped, err := b.net.Drop(num)
	wantErr(t, "Drop", err, api.ErrNone)
	doubled, err := b.net.Double(num)
	wantErr(t, "Double", err, api.ErrNone)
	if kept(delivered) != (seen{}) || kept(dropped) != (seen{}) || doubled != 0 {
		t.Errorf("%d, of which there is none: %v %v %d", num, delivered, dropped, doubled)
	}
	for _, x := range []int{math.MinInt, -1, 0, 1, math.MaxInt} {
		for _, by := range []string{"", "x", "wxyz", "vwxyz"} {
			wantErr(t, "Alter", b.net.Alter(num, x, []byte(by)), api.ErrNone)
		}
		wantErr(t, "Cut", b.net.Cut(num, x), api.ErrNone)
	}
	b.wantCopies(t, before...)
}

// TestNone: P20.3 to P20.6: numbers that are none as yet, were taken away, or are no numbers of copies at all, beside copies that are under way.
func TestNone(t *testing.T) {
	b := begun(t)
	for num := 1; num <= 7; num++ {
		b.mustSend(t, "abcdef", num)
	}
	b.deliver(t, 2)
	b.drop(t, 4)
	b.alter(t, 5, 1, "zz")
	b.deliver(t, 5)
	b.cut(t, 6, 3)
	b.drop(t, 6)
	for _, num := range edges {
		if num != 1 && num != 3 && num != 7 {
			b.wantNone(t, num)
		}
	}
	b.wantCopies(t, seen{1, 1, 2, "abcdef", 7, false}, seen{3, 1, 2, "abcdef", 7, false}, seen{7, 1, 2, "abcdef", 7, false})
	b.mustSend(t, "", 8)
}

// TestTake: P20.3: Deliver and Drop alike take that copy off the way, and no other; it is answered as it was.
func TestTake(t *testing.T) {
	for _, take := range []func(*net.Net, int) (api.Copy, api.Errno){(*net.Net).Deliver, (*net.Net).Drop} {
		for num := 1; num <= 5; num++ {
			b := begun(t)
			b.mustSend(t, "abcdef", 1)
			b.send(t, 16, 3, "ghi", math.MaxInt)
			b.mustDouble(t, 1, 3)
			b.alter(t, 3, 2, "ZZ")
			b.mustDouble(t, 3, 4)
			b.cut(t, 4, 1)
			b.mustDouble(t, 2, 5)
			all := []seen{{1, 1, 2, "abcdef", 7, false}, {2, 16, 3, "ghi", math.MaxInt, false}, {3, 1, 2, "abZZef", 7, true}, {4, 1, 2, "a", 7, true}, {5, 16, 3, "ghi", math.MaxInt, false}}
			b.wantCopies(t, all...)
			s, err := b.take(t, num, take)
			wantErr(t, num, err, api.OK)
			if s != all[num-1] {
				t.Errorf("%v; want %v", s, all[num-1])
			}
			b.wantCopies(t, slices.Delete(all, num-1, num)...)
			b.wantNone(t, num)
			b.mustSend(t, "", 6)
		}
	}
}

// TestDouble: P20.4: of a copy that is not Bad, was altered, was cut off, of a double, of a copy whose first one has arrived: the bytes as they were sent, not Bad, the same From, To and Sent.
func TestDouble(t *testing.T) {
	clean := seen{0, 5, 9, "frame", 33, false}
	for _, x := range []struct {
		what string
		do   func(b both) int // which copy is doubled then
	}{
		{"clean", func(b both) int { return 1 }},
		{"altered", func(b both) int { b.alter(t, 1, 0, "FRAM"); return 1 }},
		{"cut off", func(b both) int { b.cut(t, 1, 2); return 1 }},
		{"cut off to nothing", func(b both) int { b.cut(t, 1, 0); return 1 }},
		{"a double", func(b both) int { b.mustDouble(t, 1, 2); return 2 }},
		{"a double of a double", func(b both) int { b.mustDouble(t, 1, 2); b.mustDouble(t, 2, 3); return 3 }},
		{"a double of an altered one", func(b both) int { b.alter(t, 1, 4, "\x00"); b.mustDouble(t, 1, 2); return 2 }},
		{"an altered double", func(b both) int { b.mustDouble(t, 1, 2); b.alter(t, 2, 4, "\x00"); return 2 }},
		{"a double whose first one was altered later", func(b both) int { b.mustDouble(t, 1, 2); b.alter(t, 1, 4, "\x00"); return 2 }},
		{"the first one of a cut double", func(b both) int { b.mustDouble(t, 1, 2); b.cut(t, 2, 4); return 1 }},
		{"its first one has arrived", func(b both) int { b.mustDouble(t, 1, 2); b.deliver(t, 1); return 2 }},
		{"its first one was altered and has arrived", func(b both) int { b.alter(t, 1, 0, "z"); b.mustDouble(t, 1, 2); b.deliver(t, 1); return 2 }},
		{"its first one was cut and lost", func(b both) int { b.cut(t, 1, 1); b.mustDouble(t, 1, 2); b.drop(t, 1); b.cut(t, 2, 3); return 2 }},
		{"its own double has arrived", func(b both) int { b.mustDouble(t, 1, 2); b.cut(t, 2, 1); b.deliver(t, 2); return 1 }},
	} {
		b := begun(t)
		b.send(t, clean.from, clean.to, clean.data, clean.sent)
		num := x.do(b)
		before := b.model.copies()
		want := clean
		var err api.Errno
		want.num, err = b.double(t, num)
		wantErr(t, x.what, err, api.OK)
		b.wantCopies(t, append(before, want)...)
		if s, err := b.deliver(t, want.num); err != api.OK || s != want {
			t.Errorf("%s: %v, error %d; want %v", x.what, s, int(err), want)
		}
		b.wantCopies(t, before...)
		if t.Failed() {
			t.Fatal(x.what)
		}
	}
}

// TestFull: P20.2, P20.4: up to MaxNum there are numbers; behind it Send and Double answer ErrFull, whatever is taken away, and all else goes on.
func TestFull(t *testing.T) {
	const most = 2147483647
	b := behind(t, most-3)
	b.mustSend(t, "abc", most-2)
	b.mustDouble(t, most-2, most-1)
	twin := behind(t, most-1)
	twin.mustSend(t, "abc", most)
	twin.wantFull(t, most)
	b.mustDouble(t, most-1, most)
	b.wantFull(t, most-2)
	b.wantFull(t, most)
	wantErr(t, "Alter", b.alter(t, most, 0, "xyz"), api.OK)
	wantErr(t, "Cut", b.cut(t, most-2, 0), api.OK)
	b.wantFull(t, most)
	b.deliver(t, most-2)
	b.wantFull(t, most-1)
	b.drop(t, most)
	b.wantFull(t, most-1)
	b.wantCopies(t, seen{most - 1, 1, 2, "abc", 7, false})
	b.drop(t, most-1)
	_, err := b.send(t, 1, 2, "abc", 7)
	wantErr(t, "Send with nothing under way", err, api.ErrFull)
	b.wantCopies(t)
}

// wantFull holds that no number is left; the errors that come first are told all the same. num is a copy that is under way.
func (b both) wantFull(t *testing.T, num int) {
	t.Helper()
	before := b.model.copies()
	for _, x := range []struct {
		from, to, step int
		want           api.Errno
	}{
		{1, 2, 0, api.ErrFull}, {16, 1, math.MaxInt, api.ErrFull},
		{0, 2, 0, api.ErrArg}, {1, 17, 0, api.ErrArg}, {2, 2, 0, api.ErrArg}, {1, 2, -1, api.ErrArg},
	} {
		n, err := b.send(t, x.from, x.to, "x", x.step)
		wantErr(t, x, err, x.want)
		if n != 0 {
			t.Errorf("%v: %d", x, n)
		}
	}
	n, err := b.double(t, num)
	wantErr(t, "Double", err, api.ErrFull)
	none, err := b.double(t, 1)
	wantErr(t, "Double of none", err, api.ErrNone)
	if n != 0 || none != 0 {
		t.Errorf("Double: %d, %d", n, none)
	}
	b.wantCopies(t, before...)
}

// TestAlter: P20.5: each number of bytes from 0 to 6, at each place from below to above, of copies of each small length: those that fit, and change something.
func TestAlter(t *testing.T) {
	const frame, by = "abcdefgh", "ABCDEF"
	for size := range len(frame) + 1 {
		for count := range len(by) + 1 {
			for _, at := range slices.Concat(edges, []int{9, size - count, size - count + 1}) {
				b := begun(t)
				b.mustSend(t, frame[:size], 1)
				want := seen{1, 1, 2, frame[:size], 7, false}
				fits := count > 0 && count < 5 && at >= 0 && at <= size && at+count <= size
				if fits {
					want.data, want.bad = frame[:at]+by[:count]+frame[at+count:size], true
					wantErr(t, []int{size, count, at}, b.alter(t, 1, at, by[:count]), api.OK)
				} else {
					wantErr(t, []int{size, count, at}, b.alter(t, 1, at, by[:count]), api.ErrArg)
				}
				b.wantCopies(t, want)
				if s, err := b.deliver(t, 1); err != api.OK || s != want {
					t.Errorf("%v, error %d; want %v", s, int(err), want)
				}
			}
		}
		if t.Failed() {
			t.Fatalf("%d bytes", size)
		}
	}
	b := begun(t)
	b.mustSend(t, frame, 1)
	wantErr(t, "many bytes", b.alter(t, 1, 0, strings.Repeat("z", 1<<20)), api.ErrArg)
	wantErr(t, "nil", b.net.Alter(1, 0, nil), api.ErrArg)
	wantErr(t, "nil behind the end", b.net.Alter(1, 8, nil), api.ErrArg)
	b.wantCopies(t, seen{1, 1, 2, frame, 7, false})
}

// TestAlterSame: P20.5: bytes that stand there already, all of them, are refused; of any that differ, be it one alone, wherever it is, none are.
func TestAlterSame(t *testing.T) {
	const frame = "abcabc"
	for count := 1; count <= 4; count++ {
		for at := 0; at+count <= len(frame); at++ {
			for differ := range 1 << count {
				by := []byte(frame[at : at+count])
				for i := range by {
					if differ>>i&1 != 0 {
						by[i] ^= 0x80
					}
				}
				b := begun(t)
				b.mustSend(t, frame, 1)
				want := api.OK
				if differ == 0 {
					want = api.ErrArg
				}
				wantErr(t, fmt.Sprintf("Alter(%d, %q)", at, by), b.alter(t, 1, at, string(by)), want)
				b.wantCopies(t, seen{1, 1, 2, frame[:at] + string(by) + frame[at+count:], 7, differ != 0})
			}
		}
	}
	// What stands elsewhere in the copy, and not there, changes something.
	b := begun(t)
	b.mustSend(t, frame, 1)
	b.mustSend(t, frame, 2)
	wantErr(t, "what stands one on", b.alter(t, 1, 0, "bcab"), api.OK)
	wantErr(t, "what stands three on", b.alter(t, 2, 0, "abc"), api.ErrArg)
	b.wantCopies(t, seen{1, 1, 2, "bcabbc", 7, true}, seen{2, 1, 2, frame, 7, false})
}

// TestAlterAllBytes: P20.5: every byte in the place of every byte, such as differ in one bit alone too.
func TestAlterAllBytes(t *testing.T) {
	for was := range 256 {
		for by := range 256 {
			n := net.New()
			n.Send(1, 2, []byte{9, byte(was), 9}, 0)
			want := api.OK
			if was == by {
				want = api.ErrArg
			}
			wantErr(t, []int{was, by}, n.Alter(1, 1, []byte{byte(by)}), want)
			c, _ := n.Deliver(1)
			if string(c.Data) != string([]byte{9, byte(by), 9}) || c.Bad != (was != by) {
				t.Errorf("%d altered by %d: %v", was, by, c)
			}
		}
	}
}

// TestCut: P20.6: each size from below to above, of copies of each small length.
func TestCut(t *testing.T) {
	const frame = "abcdefgh"
	for length := range len(frame) + 1 {
		for _, size := range edges {
			b := begun(t)
			b.mustSend(t, frame[:length], 1)
			want := seen{1, 1, 2, frame[:length], 7, false}
			if size >= 0 && size < length {
				want.data, want.bad = frame[:size], true
				wantErr(t, []int{length, size}, b.cut(t, 1, size), api.OK)
			} else {
				wantErr(t, []int{length, size}, b.cut(t, 1, size), api.ErrArg)
			}
			b.wantCopies(t, want)
			if s, err := b.drop(t, 1); err != api.OK || s != want {
				t.Errorf("%v, error %d; want %v", s, int(err), want)
			}
		}
	}
}

// TestBadAgain: P20.5, P20.6: a Bad copy is neither altered nor cut off again, not even back to what it was; what may not be asked of the bytes that it has now is ErrArg, ahead of that.
func TestBadAgain(t *testing.T) {
	const frame = "abcdef"
	for _, x := range []struct {
		what string
		do   func(b both) api.Errno
		data string
	}{
		{"altered", func(b both) api.Errno { return b.alter(t, 1, 1, "ZY") }, "aZYdef"},
		{"altered in part", func(b both) api.Errno { return b.alter(t, 1, 2, "cdeZ") }, "abcdeZ"},
		{"cut off", func(b both) api.Errno { return b.cut(t, 1, 4) }, "abcd"},
		{"cut off to one", func(b both) api.Errno { return b.cut(t, 1, 1) }, "a"},
		{"cut off to nothing", func(b both) api.Errno { return b.cut(t, 1, 0) }, ""},
	} {
		b := begun(t)
		b.mustSend(t, frame, 1)
		wantErr(t, x.what, x.do(b), api.OK)
		bad := seen{1, 1, 2, x.data, 7, true}
		for at := -1; at <= len(frame)+1; at++ {
			want := api.ErrArg
			if at >= 0 && at < len(x.data) {
				want = api.ErrExists
			}
			wantErr(t, x.what+": Cut", b.cut(t, 1, at), want)
			wantErr(t, x.what+": Alter to what was never there", b.alter(t, 1, at, "!"), want)
			for count := range 6 {
				if at >= 0 && at+count <= len(frame) {
					// What the frame has there is another thing than what stands there, or the copy is too short, or it stands there already.
					want := api.ErrArg
					if count > 0 && count < 5 && at+count <= len(x.data) && x.data[at:at+count] != frame[at:at+count] {
						want = api.ErrExists
					}
					wantErr(t, x.what+": Alter back", b.alter(t, 1, at, frame[at:at+count]), want)
				}
				if at >= 0 && at+count <= len(x.data) {
					wantErr(t, x.what+": Alter to what stands there", b.alter(t, 1, at, x.data[at:at+count]), api.ErrArg)
				}
			}
		}
		wantErr(t, x.what+": Cut from far", b.cut(t, 1, math.MaxInt), api.ErrArg)
		wantErr(t, x.what+": Alter far off", b.alter(t, 1, math.MaxInt, "!"), api.ErrArg)
		b.wantCopies(t, bad)
		if s, err := b.deliver(t, 1); err != api.OK || s != bad {
			t.Errorf("%s: %v, error %d", x.what, s, int(err))
		}
	}
}

// TestCopies: P20.7: all that are under way, their numbers rising, however many they are and whichever were taken away.
func TestCopies(t *testing.T) {
	b := begun(t)
	var want []seen
	for i := range 300 {
		s := seen{i + 1, 1 + i%16, 1 + (i+1+i/16%15)%16, strings.Repeat("x", i%7), i * i, false}
		if num, err := b.send(t, s.from, s.to, s.data, s.sent); num != s.num || err != api.OK {
			t.Fatalf("Send of %v: %d, error %d", s, num, int(err))
		}
		want = append(want, s)
	}
	b.wantCopies(t, want...)
	for i, num := range []int{150, 1, 300, 151, 149, 2, 299, 77, 200} {
		if i%2 == 0 {
			b.drop(t, num)
		} else {
			b.deliver(t, num)
		}
		want = slices.DeleteFunc(want, func(s seen) bool { return s.num == num })
		b.wantCopies(t, want...)
	}
	double, _ := b.double(t, 250)
	s, _ := b.model.copy(250)
	s.num = double
	b.wantCopies(t, append(want, s)...)
	// A copy with a low number that is altered stays where it is.
	b.alter(t, want[3].num, 0, "q")
	b.wantNet(t)
	nums := make([]int, 0, len(want))
	for _, c := range b.net.Copies() {
		nums = append(nums, c.Num)
	}
	if !slices.IsSorted(nums) {
		t.Errorf("%v", nums)
	}
}

// TestApart: P20.9: what one copy goes through shows in no other one: not in its double, made before or behind it, nor in another frame's of the same bytes, nor the other way round.
func TestApart(t *testing.T) {
	const frame = "abcdef"
	for which := 1; which <= 5; which++ {
		for name, do := range map[string]func(b both){
			"Alter":        func(b both) { wantErr(t, "Alter", b.alter(t, which, 1, "WXYZ"), api.OK) },
			"Cut":          func(b both) { wantErr(t, "Cut", b.cut(t, which, 2), api.OK) },
			"Deliver":      func(b both) { b.deliver(t, which) },
			"Drop":         func(b both) { b.drop(t, which) },
			"Alter, taken": func(b both) { b.alter(t, which, 5, "Z"); b.deliver(t, which) },
		} {
			b := begun(t)
			b.mustSend(t, frame, 1)
			b.mustDouble(t, 1, 2)
			b.mustSend(t, frame, 3)
			b.mustDouble(t, 2, 4)
			b.mustDouble(t, 1, 5)
			do(b)
			for _, s := range tell(b.net) {
				if s.num != which && (s.data != frame || s.bad) {
					t.Errorf("%s of %d: %v", name, which, s)
				}
			}
			b.wantNet(t)
			// And each other one can go its own way, as if nothing had been.
			for num := 1; num <= 5; num++ {
				if num != which {
					b.mustDouble(t, num, 5+num-btoi(num > which))
				}
			}
			for num := 1; num <= 5; num++ {
				if num != which {
					wantErr(t, name, b.alter(t, num, 0, frame[:num%3]+"!"), api.OK)
					b.wantNet(t)
				}
			}
			if t.Failed() {
				t.Fatalf("%s of %d", name, which)
			}
		}
	}
}

// btoi is 1 for what holds.
func btoi(holds bool) int {
	if holds {
		return 1
	}
	return 0
}

// TestErrorOrder: W4: two and three errors at once of each call, in the chapter's order.
func TestErrorOrder(t *testing.T) {
	const most = 2147483647
	b := behind(t, most-2)
	b.mustSend(t, "abcdef", most-1)
	b.mustSend(t, "abcdef", most)
	b.alter(t, most, 2, "zz")
	for _, x := range []struct {
		what      string
		got, want api.Errno
	}{
		{"Send: a wrong site, full", second(b.net.Send(0, 1, nil, 0)), api.ErrArg},
		{"Send: the same site, full", second(b.net.Send(1, 1, nil, 0)), api.ErrArg},
		{"Send: a wrong step, full", second(b.net.Send(1, 2, nil, -1)), api.ErrArg},
		{"Send: full", second(b.net.Send(1, 2, nil, 0)), api.ErrFull},
		{"Double: none, full", second(b.net.Double(3)), api.ErrNone},
		{"Double: full", second(b.net.Double(most)), api.ErrFull},
		{"Double: full, of one that is not Bad", second(b.net.Double(most - 1)), api.ErrFull},
		{"Alter: none, no bytes", b.net.Alter(3, 0, nil), api.ErrNone},
		{"Alter: none, a wrong place", b.net.Alter(3, -1, []byte("x")), api.ErrNone},
		{"Alter: no bytes, Bad", b.net.Alter(most, 0, nil), api.ErrArg},
		{"Alter: five bytes, Bad", b.net.Alter(most, 0, []byte("vwxyz")), api.ErrArg},
		{"Alter: below, Bad", b.net.Alter(most, -1, []byte("x")), api.ErrArg},
		{"Alter: above, Bad", b.net.Alter(most, 6, []byte("x")), api.ErrArg},
		{"Alter: partly above, Bad", b.net.Alter(most, 5, []byte("xy")), api.ErrArg},
		{"Alter: the same, Bad", b.net.Alter(most, 1, []byte("bzze")), api.ErrArg},
		{"Alter: Bad", b.net.Alter(most, 1, []byte("bcde")), api.ErrExists},
		{"Cut: none, below", b.net.Cut(3, -1), api.ErrNone},
		{"Cut: none, above", b.net.Cut(3, 100), api.ErrNone},
		{"Cut: below, Bad", b.net.Cut(most, -1), api.ErrArg},
		{"Cut: all of it, Bad", b.net.Cut(most, 6), api.ErrArg},
		{"Cut: above, Bad", b.net.Cut(most, 7), api.ErrArg},
		{"Cut: Bad", b.net.Cut(most, 5), api.ErrExists},
	} {
		wantErr(t, x.what, x.got, x.want)
	}
	b.wantCopies(t, seen{most - 1, 1, 2, "abcdef", 7, false}, seen{most, 1, 2, "abzzef", 7, true})
}

// second is the error of a number and an error.
func second(_ int, err api.Errno) api.Errno { return err }

// TestRefused: W3: whatever is refused, nothing has changed that a later call could tell; all calls of all edges.
func TestRefused(t *testing.T) {
	b := begun(t)
	b.mustSend(t, "abcdefgh", 1)
	b.mustSend(t, "abcdefgh", 2)
	b.mustSend(t, "abcdefgh", 3)
	b.alter(t, 2, 3, "ZZ")
	b.cut(t, 3, 5)
	before := tell(b.net)
	for _, num := range edges {
		for _, x := range edges {
			if num != 1 || x < 0 || x >= 8 {
				if b.cut(t, num, x) == api.OK {
					t.Fatalf("Cut(%d, %d)", num, x)
				}
			}
			for _, by := range []string{"", "a", "abcd", "ZZ", "vwxyz"} {
				if num == 1 && by != "" && altersTo("abcdefgh", x, by) {
					continue
				}
				if b.alter(t, num, x, by) == api.OK {
					t.Fatalf("Alter(%d, %d, %q)", num, x, by)
				}
			}
		}
		if num < 1 || num > 3 {
			b.deliver(t, num)
			b.drop(t, num)
			b.double(t, num)
			b.send(t, num, num, "x", 0)
			b.send(t, 1, 2, "x", min(-1, num))
		}
		b.wantCopies(t, before...)
	}
	b.mustSend(t, "", 4)
}
