package past_test

import (
	"fmt"
	"slices"
	"strings"
	"testing"

	"hearsay/api"
	"hearsay/past"
)

func dot(site, seq int) api.Dot { return api.Dot{Site: site, Seq: seq} }

func id(time, site int) api.ID { return api.ID{Time: time, Site: site} }

func run(time, site, count int) api.Run { return api.Run{ID: id(time, site), Count: count} }

// vec is the list of these Sites and Seqs, one behind the other.
func vec(numbers ...int) api.Vector {
	var v api.Vector
	for pair := range slices.Chunk(numbers, 2) {
		v = append(v, dot(pair[0], pair[1]))
	}
	return v
}

// Operations, each with the Deps that it has of its own site and those that are told.

// made is an operation of a kind, which has what is told of the other sites.
func made(kind int, d api.Dot, others ...int) api.Op {
	o := api.Op{Kind: kind, Dot: d}
	for _, other := range vec(others...) {
		if other.Site > d.Site && d.Seq > 1 && says(o.Deps, d.Site) == 0 {
			o.Deps = append(o.Deps, dot(d.Site, d.Seq-1))
		}
		o.Deps = append(o.Deps, other)
	}
	if d.Seq > 1 && says(o.Deps, d.Site) == 0 {
		o.Deps = append(o.Deps, dot(d.Site, d.Seq-1))
	}
	return o
}

func insert(d api.Dot, time int, ref api.ID, text string, others ...int) api.Op {
	o := made(api.OpInsert, d, others...)
	o.ID, o.Ref, o.Text = id(time, d.Site), ref, text
	return o
}

func remove(d api.Dot, gone []api.Run, others ...int) api.Op {
	o := made(api.OpDelete, d, others...)
	o.Gone = gone
	return o
}

func runs(gone ...api.Run) []api.Run { return gone }

func join(d api.Dot, site int, others ...int) api.Op {
	o := made(api.OpJoin, d, others...)
	o.Site = site
	return o
}

func leave(d api.Dot, others ...int) api.Op { return made(api.OpLeave, d, others...) }

// clone is the same operation in memory of its own.
func clone(o api.Op) api.Op {
	o.Deps, o.Gone, o.Text = slices.Clone(o.Deps), slices.Clone(o.Gone), strings.Clone(o.Text)
	return o
}

// same tells whether two operations are the same; a nil list and an empty one are.
func same(a, b api.Op) bool {
	return slices.Equal(a.Deps, b.Deps) && slices.Equal(a.Gone, b.Gone) && a.Dot == b.Dot && a.Kind == b.Kind && a.ID == b.ID && a.Ref == b.Ref && a.Text == b.Text && a.Site == b.Site
}

// words is operations for a message.
func words(ops []api.Op) string {
	s := fmt.Sprintf("%+v", ops)
	if len(s) > 2000 {
		s = s[:2000] + ".."
	}
	return s
}

// wantSame holds two ways to work something out against each other.
func wantSame[T comparable](t *testing.T, what string, ops []api.Op, got, want []T, err, wantErr api.Errno) {
	t.Helper()
	if err != wantErr || !slices.Equal(got, want) {
		t.Fatalf("%s of %s: %v, error %d; want %v, error %d", what, words(ops), got, int(err), want, int(wantErr))
	}
}

// both holds all that operations say, with some bases, against the second way, twice over; it answers Closed's error.
func both(t *testing.T, ops []api.Op, bases ...api.Vector) api.Errno {
	t.Helper()
	err := wantClosed(ops)
	var whole []api.Node
	var members []int
	if err == api.OK {
		whole, members = wantWhole(ops), wantMembers(ops)
	}
	for range 2 {
		wantSame[int](t, "Closed", ops, nil, nil, past.Closed(ops), err)
		gotText, gotErr := past.Text(ops)
		wantSame(t, "Text", ops, []string{gotText}, []string{textOf(whole)}, gotErr, err)
		gotIDs, gotErr := past.Order(ops)
		wantSame(t, "Order", ops, gotIDs, idsOf(whole), gotErr, err)
		gotMembers, gotErr := past.Members(ops)
		wantSame(t, "Members", ops, gotMembers, members, gotErr, err)
	}
	for _, base := range bases {
		wantBehind(t, whole, ops, base, err)
	}
	return err
}

// wantBehind holds what operations say behind a base against the second way, twice over; it answers the elements, and the error.
func wantBehind(t *testing.T, whole []api.Node, ops []api.Op, base api.Vector, err api.Errno) ([]api.Node, api.Errno) {
	t.Helper()
	if err == api.OK {
		err = wantBase(ops, base)
	}
	var nodes []api.Node
	if err == api.OK {
		nodes = wantNodes(whole, ops, base)
	}
	for range 2 {
		got, gotErr := past.Nodes(ops, base)
		wantSame(t, fmt.Sprintf("Nodes, base %v,", base), ops, got, nodes, gotErr, err)
		upto, want := past.Upto(ops, base), wantUpto(ops, base)
		if !slices.EqualFunc(upto, want, same) {
			t.Fatalf("Upto(%s; %v): %s; want %s", words(ops), base, words(upto), words(want))
		}
	}
	return nodes, err
}

// withBase is wantBehind for operations of which nothing is known as yet.
func withBase(t *testing.T, ops []api.Op, base api.Vector) ([]api.Node, api.Errno) {
	t.Helper()
	err := wantClosed(ops)
	if err != api.OK {
		return wantBehind(t, nil, ops, base, err)
	}
	return wantBehind(t, wantWhole(ops), ops, base, err)
}

// wantErr holds an error against what it must be, in all calls that tell it.
func wantErr(t *testing.T, want api.Errno, ops ...api.Op) {
	t.Helper()
	if got := both(t, ops, nil, vec(1, 1)); got != want {
		t.Errorf("%s: error %d; want %d", words(ops), int(got), int(want))
	}
}
