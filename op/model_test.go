package op_test

import (
	"cmp"
	"encoding/binary"
	"reflect"
	"slices"
	"unicode/utf8"

	"hearsay/api"
)

// What the chapter says, worked out a second time by other means: fields by their names, pairs of runs, the library's UTF-8 and its numbers as bytes, and a queue of things that are asked for.

// has is the fields that an operation of each kind may have beside its Dot, Deps and Kind.
var has = map[int][]string{
	api.OpInsert: {"ID", "Ref", "Text"},
	api.OpDelete: {"Gone"},
	api.OpJoin:   {"Site"},
	api.OpLeave:  {},
}

func wantCheck(o api.Op) api.Errno {
	if wantDone(o) && wantNothingBeside(o) && wantOwn(o) {
		return api.OK
	}
	return api.ErrOp
}

func site(n int) bool { return n > 0 && n < 17 }

func time(n int) bool { return n > 0 && n>>31 == 0 }

// wantDone is about Dot and Deps: the list must be its own sites, sorted, each once.
func wantDone(o api.Op) bool {
	sites := map[int]int{}
	for _, d := range o.Deps {
		if !site(d.Site) || !time(d.Seq) {
			return false
		}
		sites[d.Site] = d.Seq
	}
	sorted := slices.IsSortedFunc(o.Deps, func(a, b api.Dot) int { return cmp.Compare(a.Site, b.Site) })
	return sorted && len(sites) == len(o.Deps) && site(o.Dot.Site) && time(o.Dot.Seq) && sites[o.Dot.Site]+1 == o.Dot.Seq
}

// wantNothingBeside goes through all fields that there are.
func wantNothingBeside(o api.Op) bool {
	fields, known := has[o.Kind]
	fields = append([]string{"Dot", "Deps", "Kind"}, fields...)
	for field, value := range reflect.ValueOf(o).Fields() {
		empty := value.IsZero() || value.Kind() == reflect.Slice && value.Len() == 0
		if !slices.Contains(fields, field.Name) && !empty {
			return false
		}
	}
	return known
}

func wantOwn(o api.Op) bool {
	switch o.Kind {
	case api.OpInsert:
		return wantInsert(o)
	case api.OpDelete:
		return len(o.Gone) > 0 && len(o.Gone) < 1025 && wantRuns(o.Gone)
	case api.OpJoin:
		return site(o.Site)
	}
	return true
}

func wantInsert(o api.Op) bool {
	runes := utf8.RuneCountInString(o.Text)
	if !utf8.ValidString(o.Text) || runes == 0 || runes > 1024 || o.ID.Site != o.Dot.Site {
		return false
	}
	for n := range runes {
		if !time(o.ID.Time) || !time(o.ID.Time+n) {
			return false
		}
	}
	if o.Ref.Time == 0 {
		return o.Ref.Site == 0
	}
	return time(o.Ref.Time) && site(o.Ref.Site) && o.Ref.Time < o.ID.Time
}

// wantRuns holds each two runs against each other.
func wantRuns(runs []api.Run) bool {
	for i, r := range runs {
		if !time(r.ID.Time) || !site(r.ID.Site) || !time(r.Count) || !time(r.ID.Time+r.Count-1) {
			return false
		}
		for _, a := range runs[:i] {
			higher := r.ID.Time > a.ID.Time || r.ID.Time == a.ID.Time && r.ID.Site > a.ID.Site
			if !higher || r.ID.Site == a.ID.Site && r.ID.Time <= a.ID.Time+a.Count {
				return false
			}
		}
	}
	return true
}

// wantLast sorts all last times there are.
func wantLast(o api.Op) int {
	if wantCheck(o) != api.OK {
		return 0
	}
	times := []int{0}
	if o.Kind == api.OpInsert {
		times = append(times, o.ID.Time-1+utf8.RuneCountInString(o.Text))
	}
	for _, r := range o.Gone {
		times = append(times, r.ID.Time-1+r.Count)
	}
	slices.Sort(times)
	return times[len(times)-1]
}

// row is numbers as bytes.
func row(numbers ...int) []byte {
	var b []byte
	for _, n := range numbers {
		b = binary.AppendUvarint(b, uint64(n))
	}
	return b
}

// wantNumbers is the numbers that Put lays of an operation, whether Check takes it or not: of an OpInsert all ahead of its Text's bytes.
func wantNumbers(o api.Op) []int {
	l := []int{o.Kind, o.Dot.Site, o.Dot.Seq, len(o.Deps)}
	for _, d := range o.Deps {
		l = append(l, d.Site, d.Seq)
	}
	switch o.Kind {
	case api.OpInsert:
		l = append(l, o.ID.Time, o.Ref.Time, o.Ref.Site, len(o.Text))
	case api.OpDelete:
		l = append(l, len(o.Gone))
		for _, r := range o.Gone {
			l = append(l, r.ID.Time, r.ID.Site, r.Count)
		}
	case api.OpJoin:
		l = append(l, o.Site)
	}
	return l
}

// wantBytes is what Put lays of an operation that Check takes.
func wantBytes(o api.Op) []byte { return append(row(wantNumbers(o)...), o.Text...) }

// ask is one thing that is asked for: a number, or a text, and what comes of it.
type ask struct {
	number func(n int) api.Errno
	text   *string
}

// into is a number that is only kept.
func into(at *int) ask {
	return ask{number: func(n int) api.Errno {
		*at = n
		return api.OK
	}}
}

// asking is an operation that is being taken.
type asking struct {
	left  []byte
	queue []ask
	op    api.Op
}

// wantTake asks for one thing after the other; some of them ask for more. It answers the operation, how many bytes are left, the error, and whether the Reader has that error too.
func wantTake(b []byte) (o api.Op, left int, err api.Errno, stopped bool) {
	a := &asking{left: b}
	a.queue = []ask{{number: a.kind}}
	for len(a.queue) > 0 {
		next := a.queue[0]
		a.queue = a.queue[1:]
		n, width, err := number(a.left)
		if err == api.OK && next.text != nil && n > len(a.left)-width {
			err = api.ErrShort
		}
		if err != api.OK {
			return api.Op{}, len(a.left), err, true
		}
		a.left = a.left[width:]
		if next.text != nil {
			*next.text, a.left = string(a.left[:n]), a.left[n:]
		} else if err := next.number(n); err != api.OK {
			return api.Op{}, len(a.left), err, false
		}
	}
	if wantCheck(a.op) != api.OK {
		return api.Op{}, len(a.left), api.ErrOp, false
	}
	return a.op, len(a.left), api.OK, false
}

// number is the number that stands first, and how many bytes it has.
func number(b []byte) (n, width int, err api.Errno) {
	end := slices.IndexFunc(b[:min(len(b), 9)], func(c byte) bool { return c < 0x80 })
	switch {
	case end < 0 && len(b) < 9:
		return 0, 0, api.ErrShort
	case end < 0 || end > 0 && b[end] == 0:
		return 0, 0, api.ErrForm
	}
	v, width := binary.Uvarint(b[:end+1])
	return int(v), width, api.OK
}

func (a *asking) kind(n int) api.Errno {
	if _, known := has[n]; !known {
		return api.ErrOp
	}
	a.op.Kind = n
	a.queue = []ask{into(&a.op.Dot.Site), into(&a.op.Dot.Seq), {number: a.dots}}
	switch n {
	case api.OpInsert:
		a.queue = append(a.queue, into(&a.op.ID.Time), into(&a.op.Ref.Time), into(&a.op.Ref.Site), ask{text: &a.op.Text})
	case api.OpDelete:
		a.queue = append(a.queue, ask{number: a.runs})
	case api.OpJoin:
		a.queue = append(a.queue, into(&a.op.Site))
	}
	return api.OK
}

// dots has all of Deps asked for, ahead of what waits already.
func (a *asking) dots(count int) api.Errno {
	if a.op.Kind == api.OpInsert {
		a.op.ID.Site = a.op.Dot.Site
	}
	if count > api.MaxSites {
		return api.ErrForm
	}
	a.op.Deps = make(api.Vector, count)
	var more []ask
	for i := range a.op.Deps {
		ahead := 0
		more = append(more, ask{number: func(n int) api.Errno {
			if i > 0 {
				ahead = a.op.Deps[i-1].Site
			}
			a.op.Deps[i].Site = n
			return unless(site(n) && n > ahead)
		}}, ask{number: func(n int) api.Errno {
			a.op.Deps[i].Seq = n
			return unless(time(n))
		}})
	}
	a.queue = append(more, a.queue...)
	return api.OK
}

func unless(right bool) api.Errno {
	if right {
		return api.OK
	}
	return api.ErrForm
}

// runs has all of Gone asked for: nothing waits behind it.
func (a *asking) runs(count int) api.Errno {
	if count > api.MaxGone {
		return api.ErrOp
	}
	a.op.Gone = make([]api.Run, count)
	for i := range a.op.Gone {
		r := &a.op.Gone[i]
		a.queue = append(a.queue, into(&r.ID.Time), into(&r.ID.Site), into(&r.Count))
	}
	return api.OK
}
