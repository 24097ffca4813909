package net_test

import (
	"runtime"
	"slices"
	"strings"
	"testing"

	"hearsay/api"
	"hearsay/net"
)

// rich is a network with copies of all kinds: clean, doubles of one frame, altered, cut off, without bytes.
func rich(t *testing.T) both {
	t.Helper()
	b := begun(t)
	b.mustSend(t, "abcdefgh", 1)
	b.mustDouble(t, 1, 2)
	b.mustDouble(t, 2, 3)
	b.mustDouble(t, 1, 4)
	b.mustSend(t, "abcdefgh", 5)
	b.mustSend(t, "", 6)
	b.mustDouble(t, 1, 7)
	b.alter(t, 3, 2, "ZYXW")
	b.cut(t, 4, 5)
	b.cut(t, 7, 0)
	return b
}

// TestGivenApart: P20.10, W6: what was handed in has nothing to do with what is kept or answered: one array as the bytes of many frames, and as what they are altered by.
func TestGivenApart(t *testing.T) {
	given := []byte("abcdefghijklmnop")
	n := net.New()
	n.Send(1, 2, given[:8], 7)
	n.Send(1, 2, given[4:8:8], 7)
	n.Send(1, 2, given[:0], 7)
	n.Double(1)
	wantErr(t, "Alter", n.Alter(1, 0, given[4:8]), api.OK)
	wantErr(t, "Alter", n.Alter(2, 1, given[:3]), api.OK)
	if string(given) != "abcdefghijklmnop" {
		t.Errorf("what was handed in is now %q", given)
	}
	for i := range given {
		given[i] = '!'
	}
	want := []seen{{1, 1, 2, "efghefgh", 7, true}, {2, 1, 2, "eabc", 7, true}, {3, 1, 2, "", 7, false}, {4, 1, 2, "abcdefgh", 7, false}}
	if got := tell(n); !slices.Equal(got, want) {
		t.Errorf("%v; want %v", got, want)
	}
	n.Double(2)
	c, _ := n.Deliver(5)
	if string(c.Data) != "efgh" {
		t.Errorf("the double of what was sent: %q", c.Data)
	}
	if string(given) != strings.Repeat("!", 16) {
		t.Errorf("what was handed in is now %q", given)
	}
}

// TestAnswersApart: P20.10, W6: no two answers share anything, no two copies of one answer do, and none shares anything with what is kept, room behind their ends too.
func TestAnswersApart(t *testing.T) {
	b := rich(t)
	want := b.model.copies()
	lists := [][]api.Copy{b.net.Copies(), b.net.Copies()}
	wantAll := func() {
		t.Helper()
		for _, list := range lists {
			if got := look(list); !slices.Equal(got, want) {
				t.Fatalf("an earlier answer is now %v; it was %v", got, want)
			}
		}
	}
	wantAll()
	for i := range lists {
		for k := range lists[i] {
			data := lists[i][k].Data
			was := slices.Clone(data[:cap(data)])
			spoil(data)
			lists[i][k].Data = []byte(want[k].data)
			wantAll()
			b.wantNet(t)
			if string(was[:len(data)]) != want[k].data {
				t.Errorf("%q", was)
			}
		}
	}
	for i := range lists {
		full := lists[i][:cap(lists[i])]
		saved := slices.Clone(lists[i])
		for k := range full {
			full[k] = api.Copy{Num: -1}
		}
		lists[i] = saved
		wantAll()
		b.wantNet(t)
	}
	// What was answered earlier does not go on with the network.
	lists = [][]api.Copy{b.net.Copies()}
	b.alter(t, 1, 0, "!!!!")
	b.cut(t, 2, 1)
	b.alter(t, 5, 7, "?")
	wantAll()
	for _, s := range want {
		b.drop(t, s.num)
	}
	b.mustSend(t, "xxxxxxxx", 8)
	wantAll()
}

// TestTakenApart: P20.10, W6: what Deliver and Drop answer is shared with no copy of the same frame that is under way still, nor with an answer ahead of it.
func TestTakenApart(t *testing.T) {
	for _, take := range []func(*net.Net, int) (api.Copy, api.Errno){(*net.Net).Deliver, (*net.Net).Drop} {
		for num := 1; num <= 7; num++ {
			b := rich(t)
			want := b.model.copies()
			earlier := b.net.Copies()
			c, err := take(b.net, num)
			wantErr(t, num, err, api.OK)
			b.model.take(num)
			if got := look([]api.Copy{c})[0]; got != want[num-1] {
				t.Errorf("%v; want %v", got, want[num-1])
			}
			spoil(c.Data)
			if got := look(earlier); !slices.Equal(got, want) {
				t.Errorf("an earlier answer is now %v", got)
			}
			b.wantNet(t)
			b.double(t, 1)
			b.double(t, 2)
			b.double(t, 5)
			b.wantNet(t)
		}
	}
}

// inUse is how many bytes are held on to.
func inUse() int {
	var m runtime.MemStats
	runtime.GC()
	runtime.ReadMemStats(&m)
	return int(m.HeapAlloc)
}

// wantLittle holds how many bytes are held on to more than before against a bound.
func wantLittle(t *testing.T, about string, before, most int) {
	t.Helper()
	if n := inUse() - before; n > most {
		t.Errorf("%s: %d bytes are kept", about, n)
	}
}

// TestNotKept: P20.10, W6: no network holds on to the room of what was handed in.
func TestNotKept(t *testing.T) {
	big := func(data string) []byte { return append(make([]byte, 0, 1<<18), data...) }
	var nets []*net.Net
	before := inUse()
	for range 50 {
		n := net.New()
		n.Send(1, 2, big("abcdefgh"), 0)
		n.Send(1, 2, big(""), 0)
		n.Double(1)
		n.Alter(1, 3, big("z"))
		nets = append(nets, n)
	}
	wantLittle(t, "what was handed in", before, 1<<18)
	runtime.KeepAlive(nets)
}

// TestKeepsLittle: P20.1: copies that come and go leave nothing behind; many doubles of one frame have its clean bytes once.
func TestKeepsLittle(t *testing.T) {
	before := inUse()
	n := net.New()
	n.Send(1, 2, []byte("it stays"), 0)
	for i := range 200000 {
		num, _ := n.Send(1, 2, []byte("abcdefgh"), i)
		n.Double(num)
		n.Alter(num, 0, []byte("z"))
		n.Cut(num+1, 3)
		n.Deliver(num)
		n.Drop(num + 1)
	}
	wantLittle(t, "copies that come and go", before, 1<<18)

	before = inUse()
	first, _ := n.Send(1, 2, make([]byte, 1<<20), 0)
	for range 100 {
		n.Double(first)
	}
	wantLittle(t, "a hundred doubles", before, 1<<21)
	for num := first; num <= first+100; num++ {
		n.Drop(num)
	}
	wantLittle(t, "doubles that were lost", before, 1<<18)

	// The room of very many copies goes with the last one.
	n = net.New()
	before = inUse()
	for range 100000 {
		n.Send(1, 2, nil, 0)
	}
	for num := range 100000 {
		n.Deliver(num + 1)
	}
	wantLittle(t, "very many that were delivered", before, 1<<18)
	runtime.KeepAlive(n)
}
