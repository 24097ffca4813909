package editor_test

import (
	"bytes"
	"runtime"
	"slices"
	"strings"
	"testing"
	"unsafe"

	"hearsay/api"
	"hearsay/editor"
	"hearsay/replica"
)

// spoil turns all of a list, and the room behind its end, to something else.
func spoil[L ~[]E, E any](list L, with E) {
	list = list[:cap(list)]
	for i := range list {
		list[i] = with
	}
}

func spoilOp(o api.Op) {
	spoil(o.Deps, api.Dot{Site: -1, Seq: -1})
	spoil(o.Gone, api.Run{Count: -1})
}

func cloneOp(o api.Op) api.Op {
	o.Deps, o.Gone = slices.Clone(o.Deps), slices.Clone(o.Gone)
	return o
}

// share tells whether two texts lie in the same memory, even in part.
func share(a, b string) bool {
	if a == "" || b == "" {
		return false
	}
	from, other := uintptr(unsafe.Pointer(unsafe.StringData(a))), uintptr(unsafe.Pointer(unsafe.StringData(b)))
	return from < other+uintptr(len(b)) && other < from+uintptr(len(a))
}

// TestAnswersApart: P19.12, W6: changing what was answered changes nothing of what is answered later, nor of another answer.
func TestAnswersApart(t *testing.T) {
	a, b := pair(t, config, "abcdef")
	a.markAll(t)
	b.insert(t, api.UnitRune, 3, "xyz")
	o, _ := a.insert(t, api.UnitRune, 1, "né")
	spoilOp(o)
	a.wantSame(t, "a spoilt insert")
	o, _ = a.erase(t, api.UnitRune, 0, 2)
	spoilOp(o)
	a.wantSame(t, "a spoilt delete")
	ops, _ := a.setText(t, "xéabef!")
	if len(ops) < 3 {
		t.Fatalf("%d operations", len(ops))
	}
	for i := range ops {
		var was []api.Op
		for _, o := range ops[i+1:] {
			was = append(was, cloneOp(o))
		}
		spoilOp(ops[i])
		for k, o := range ops[i+1:] {
			wantSameOp(t, o, was[k])
		}
	}
	spoil(ops, api.Op{Kind: -1})
	a.wantSame(t, "spoilt operations")

	out, _ := a.receive(t, b.draw(t, 1)[0].Data)
	for _, x := range out {
		spoil(x.Data, 0x55)
	}
	spoil(out, replica.Out{To: -1})
	a.wantSame(t, "a spoilt frame")
	tell(t, a, b)
	tell(t, b, a)
	a.wantText(t, b.e.Text())
}

// TestAnswersStay: P19.12, W6: what was answered stays as it was, whatever comes.
func TestAnswersStay(t *testing.T) {
	b := found(t, keeping(0), "abc")
	b.markAll(t)
	text := b.e.Text()
	ops, _ := b.setText(t, "xbyz")
	var was []api.Op
	for _, o := range ops {
		was = append(was, cloneOp(o))
	}
	for range 5 {
		b.insert(t, api.UnitRune, 0, "more")
		b.erase(t, api.UnitRune, 1, 3)
		b.setText(t, "zyx")
		b.mark(t, api.UnitRune, 1)
	}
	if text != "abc" || len(ops) != len(was) {
		t.Errorf("%q, %d operations", text, len(ops))
	}
	for i, o := range ops {
		wantSameOp(t, o, was[i])
	}
}

// TestGivenApart: P19.12, W6: bytes that are handed in are not changed, not even the room behind them; and changing them later changes nothing.
func TestGivenApart(t *testing.T) {
	a := found(t, config, "abc")
	a.join(t, 2)
	b := idle(t, 2, config)
	hear := func(b both, data []byte) {
		t.Helper()
		given := append(bytes.Clone(data), 1, 2, 3)
		was := bytes.Clone(given)
		_, err := b.receive(t, given[:len(data)])
		wantErr(t, "Receive", err, api.OK)
		if !bytes.Equal(given, was) {
			t.Error("what was handed in has changed")
		}
		spoil(given, 0x55)
		b.wantSame(t, "spoilt bytes")
	}
	hear(b, a.draw(t, 2)[0].Data)
	b.wantText(t, "abc")
	b.markAll(t)
	a.setText(t, "xbé𝄞")
	a.erase(t, api.UnitRune, 0, 1)
	hear(b, a.draw(t, 2)[0].Data)
	for range 3 {
		hear(b, a.draw(t, 2)[0].Data)
	}
	hear(a, b.draw(t, 1)[0].Data)
	tell(t, a, b)
	b.wantText(t, "bé𝄞")
	b.wantRunes(t, "a and c gone", 0, 0, 1, 1)
}

// TestTextsApart: P19.12: texts that are handed in, kept and answered are in memory of their own.
func TestTextsApart(t *testing.T) {
	r, _ := replica.Found(1, config)
	e := editor.Open(r)
	given := strings.Repeat("long text ", 9)
	typed, _ := e.Type(api.UnitRune, 0, given)
	other := strings.Repeat("another ", 9)
	ops, _ := e.SetText(other)
	all := []string{given, typed.Text, other, e.Text(), e.Text()}
	for _, o := range ops {
		all = append(all, o.Text)
	}
	for _, o := range r.Image().Log {
		all = append(all, o.Text)
	}
	for i, s := range all {
		for k, x := range all[:i] {
			if share(s, x) {
				t.Errorf("the texts %d and %d share memory", k, i)
			}
		}
	}
}

// inUse is how many bytes are held on to.
func inUse() int {
	var m runtime.MemStats
	runtime.GC()
	runtime.GC()
	runtime.ReadMemStats(&m)
	return int(m.HeapAlloc)
}

// TestKeepsLittle: P19.12: anchors that were taken away, what was shown once, and what was handed in and refused are not held on to.
func TestKeepsLittle(t *testing.T) {
	r, _ := replica.Found(1, keeping(0))
	e := editor.Open(r)
	e.Type(api.UnitRune, 0, "abc")
	e.Mark(api.UnitRune, 2)
	data := make([]byte, 1<<12)
	before := inUse()
	for range 4000 {
		mark, _ := e.Mark(api.UnitRune, 3)
		e.Type(api.UnitRune, 3, "and on, and on, and on")
		e.Where(mark)
		e.Erase(api.UnitRune, 3, r.Len())
		e.SetText("abc and more")
		e.SetText("abc")
		e.Receive(bytes.Clone(data))
		e.Unmark(mark)
	}
	if n := inUse() - before; n > 1<<17 {
		t.Errorf("%d bytes are kept", n)
	}
	if s, err := e.Where(1); s.Rune != 2 || err != api.OK || e.Text() != "abc" {
		t.Errorf("%+v, error %d, in %q", s, int(err), e.Text())
	}
	runtime.KeepAlive(e)
}
