package net_test

import (
	"math/rand"
	"slices"
	"strings"
	"testing"

	"hearsay/api"
)

// TestFewCalls: P20.1 to P20.9: all rows of few calls of few copies, from the first number on and near the last one, with all that is under way behind each.
func TestFewCalls(t *testing.T) {
	for _, last := range []int{0, 2147483647 - 2} {
		send := func(from, to int, data string, step int) func(b both) {
			return func(b both) { b.send(t, from, to, data, step) }
		}
		double := func(num int) func(b both) { return func(b both) { b.double(t, last+num) } }
		alter := func(num, at int, by string) func(b both) { return func(b both) { b.alter(t, last+num, at, by) } }
		cut := func(num, size int) func(b both) { return func(b both) { b.cut(t, last+num, size) } }
		calls := []func(b both){
			send(1, 2, "ab", 3), send(16, 1, "", 0), send(4, 4, "ab", 3), double(1), double(2),
			alter(1, 0, "a"), alter(1, 0, "b"), alter(2, 1, "z"), alter(1, 1, "bc"), cut(1, 0), cut(1, 1), cut(2, 1), cut(2, 2),
			func(b both) { b.deliver(t, last+1) }, func(b both) { b.drop(t, last+2) },
		}
		rows := [][]int{nil}
		for at := 0; at < len(rows); at++ {
			b := behind(t, last)
			for _, i := range rows[at] {
				calls[i](b)
			}
			b.wantNet(t)
			if t.Failed() {
				t.Fatalf("behind %d: %v", last, rows[at])
			}
			for i := range calls {
				if len(rows[at]) < 4 {
					rows = append(rows, append(slices.Clone(rows[at]), i))
				}
			}
		}
	}
}

// player makes calls by chance of a network.
type player struct {
	both
	chance *rand.Rand
}

// orEdge is a number, seldom anything else.
func (p player) orEdge(n int) int {
	if p.chance.Intn(12) == 0 {
		return edges[p.chance.Intn(len(edges))]
	}
	return n
}

// number is one that was given already, or is not as yet, seldom anything else.
func (p player) number() int {
	if copies := p.model.copies(); len(copies) > 0 && p.chance.Intn(6) > 0 {
		return p.orEdge(copies[p.chance.Intn(len(copies))].num)
	}
	return p.orEdge(p.model.last + 1 + p.chance.Intn(len(p.model.past)+2))
}

// frame is bytes of few kinds, so that alike ones stand beside one another.
func (p player) frame() string {
	var data strings.Builder
	for range p.chance.Intn(12) {
		data.WriteByte("ab\x00\xff"[p.chance.Intn(4)])
	}
	return data.String()
}

// patch is a place of a copy, and bytes that may come there: such as stand there already now and then, with one of them turned at times.
func (p player) patch(num int) (int, string) {
	s, _ := p.model.copy(num)
	at, count := p.chance.Intn(len(s.data)+1), p.chance.Intn(7)
	if p.chance.Intn(3) == 0 {
		at = len(s.data) - count
	}
	if at < 0 || p.chance.Intn(2) == 0 {
		return p.orEdge(at), strings.Repeat("ab", 3)[:count]
	}
	by := []byte(s.data[at:min(at+count, len(s.data))])
	if len(by) > 0 && p.chance.Intn(3) > 0 {
		by[p.chance.Intn(len(by))]++
	}
	return p.orEdge(at), string(by)
}

// step makes one call, and says which and how it ended.
func (p player) step(t *testing.T) string {
	t.Helper()
	switch p.chance.Intn(8) {
	case 0, 1:
		_, err := p.send(t, p.orEdge(1+p.chance.Intn(16)), p.orEdge(1+p.chance.Intn(16)), p.frame(), p.orEdge(p.chance.Intn(100)))
		return "Send " + err.Error()
	case 2:
		_, err := p.double(t, p.number())
		return "Double " + err.Error()
	case 3:
		_, err := p.deliver(t, p.number())
		return "Deliver " + err.Error()
	case 4:
		_, err := p.drop(t, p.number())
		return "Drop " + err.Error()
	case 5:
		return "Cut " + p.cut(t, p.number(), p.orEdge(p.chance.Intn(12)-1)).Error()
	default:
		num := p.number()
		at, by := p.patch(num)
		return "Alter " + p.alter(t, num, at, by).Error()
	}
}

// TestScripts: P20.1 to P20.9: calls by chance, each held against what it must do, with all that is under way behind each.
func TestScripts(t *testing.T) {
	chance := rand.New(rand.NewSource(20))
	times := map[string]int{}
	for range 1500 {
		last := 0
		if chance.Intn(4) == 0 {
			last = 2147483647 - chance.Intn(12)
		}
		p := player{behind(t, last), chance}
		for range 50 {
			times[p.step(t)]++
			p.wantNet(t)
		}
		if t.Failed() {
			return
		}
	}
	for call, errs := range map[string][]api.Errno{
		"Send": {api.OK, api.ErrArg, api.ErrFull}, "Double": {api.OK, api.ErrNone, api.ErrFull}, "Deliver": {api.OK, api.ErrNone}, "Drop": {api.OK, api.ErrNone},
		"Alter": {api.OK, api.ErrNone, api.ErrArg, api.ErrExists}, "Cut": {api.OK, api.ErrNone, api.ErrArg, api.ErrExists},
	} {
		for _, err := range errs {
			if what := call + " " + err.Error(); times[what] < 300 {
				t.Errorf("%s: %d times alone", what, times[what])
			}
		}
	}
}

// TestBad: P20.8: what follows, asked of scripts by chance as it stands in the chapter: the frame of each copy is kept beside the network, and nothing else.
func TestBad(t *testing.T) {
	chance := rand.New(rand.NewSource(208))
	fewer, others := 0, 0
	for range 400 {
		p := player{begun(t), chance}
		frames := map[int]string{}
		for range 60 {
			switch chance.Intn(4) {
			case 0:
				data := p.frame()
				num, _ := p.net.Send(1, 2, []byte(data), 0)
				frames[num] = data
			case 1:
				num := 1 + chance.Intn(len(frames)+1)
				if double, err := p.net.Double(num); err == api.OK {
					frames[double] = frames[num]
				}
			case 2:
				p.net.Cut(1+chance.Intn(len(frames)+1), chance.Intn(12)-1)
			default:
				p.net.Alter(1+chance.Intn(len(frames)+1), chance.Intn(12)-1, []byte(p.frame()))
			}
			for _, c := range p.net.Copies() {
				if wantBytes(t, c, frames[c.Num]); len(c.Data) < len(frames[c.Num]) {
					fewer++
				} else if c.Bad {
					others++
				}
			}
			if t.Failed() {
				return
			}
		}
	}
	if fewer < 1000 || others < 1000 {
		t.Errorf("%d with fewer bytes, %d with others", fewer, others)
	}
}

// wantBytes holds the bytes of a copy against its frame's.
func wantBytes(t *testing.T, c api.Copy, frame string) {
	t.Helper()
	data := string(c.Data)
	if (data == frame) == c.Bad || len(data) > len(frame) {
		t.Errorf("%q of %q, Bad %v", data, frame, c.Bad)
	}
	if len(data) != len(frame) {
		return
	}
	var differ []int
	for i := range data {
		if data[i] != frame[i] {
			differ = append(differ, i)
		}
	}
	if len(differ) > 0 && differ[len(differ)-1]-differ[0] > 3 {
		t.Errorf("%q of %q: they differ at %v", data, frame, differ)
	}
}

// TestAlike: W2: two networks that were given the same calls answer the same.
func TestAlike(t *testing.T) {
	for seed := range int64(50) {
		one, two := player{begun(t), rand.New(rand.NewSource(seed))}, player{begun(t), rand.New(rand.NewSource(seed))}
		for range 60 {
			if a, b := one.step(t), two.step(t); a != b {
				t.Errorf("%s; %s", a, b)
			}
			if a, b := tell(one.net), tell(two.net); !slices.Equal(a, b) {
				t.Errorf("%v; %v", a, b)
			}
		}
	}
}
