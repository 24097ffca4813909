package tree_test

import (
	"iter"
	"math/big"
	"slices"
	"strings"
	"unicode/utf8"

	"hearsay/api"
	"hearsay/tree"
)

// What the chapter says, worked out a second time by other means: elements in the list in which they came, of which the order is that of their ways from the beginning; runs by whole numbers of any size; and each error as one of all that apply.

type model struct {
	nodes []api.Node
}

func maybe(id api.ID) bool { return id.Time > 0 && id.Time>>31 == 0 && id.Site > 0 && id.Site < 17 }

// lower goes by both numbers at once, of identifiers that may be, and the beginning.
func lower(a, b api.ID) bool { return a.Time<<5+a.Site < b.Time<<5+b.Site }

// first is the first one of errors that apply.
func first(errs []api.Errno) api.Errno { return append(errs, api.OK)[0] }

// find is a node by its identifier.
func (m *model) find(id api.ID) *api.Node {
	for i := range m.nodes {
		if m.nodes[i].ID == id {
			return &m.nodes[i]
		}
	}
	return nil
}

func (m *model) refMissing(ref api.ID) bool { return ref != beginning && m.find(ref) == nil }

// insertErrors is all that stands against an insert, in the chapter's order.
func (m *model) insertErrors(id, ref api.ID, text string) []api.Errno {
	var l []api.Errno
	if !maybe(id) || ref != beginning && !maybe(ref) {
		return append(l, api.ErrArg)
	}
	if len(text) == 0 || !utf8.ValidString(text) {
		l = append(l, api.ErrText)
	}
	count := utf8.RuneCountInString(text)
	if count > 0 && (id.Time+count-1)>>31 != 0 {
		l = append(l, api.ErrArg)
	}
	if !lower(ref, id) {
		l = append(l, api.ErrOrder)
	}
	if m.refMissing(ref) {
		l = append(l, api.ErrNone)
	}
	if slices.ContainsFunc(m.nodes, func(n api.Node) bool {
		return n.ID.Site == id.Site && n.ID.Time >= id.Time && n.ID.Time < id.Time+count
	}) {
		l = append(l, api.ErrExists)
	}
	return l
}

func (m *model) insert(id, ref api.ID, text string) api.Errno {
	if err := first(m.insertErrors(id, ref, text)); err != api.OK {
		return err
	}
	for _, r := range []rune(text) {
		m.nodes = append(m.nodes, node(id, ref, r, api.StateShown))
		ref = id
		id.Time++
	}
	return api.OK
}

// names tells whether runs name an identifier, word by word.
func names(runs []api.Run, id api.ID) bool {
	return slices.ContainsFunc(runs, func(r api.Run) bool {
		difference := new(big.Int).Sub(big.NewInt(int64(id.Time)), big.NewInt(int64(r.ID.Time)))
		return id.Site == r.ID.Site && difference.Sign() >= 0 && difference.Cmp(big.NewInt(int64(r.Count))) < 0
	})
}

func (m *model) turn(runs []api.Run, from, to int) int {
	count := 0
	for i := range m.nodes {
		if n := &m.nodes[i]; n.State == from && names(runs, n.ID) {
			n.State = to
			count++
		}
	}
	return count
}

func (m *model) delete(runs []api.Run) int { return m.turn(runs, 1, 2) }

func (m *model) settle(runs []api.Run) int { return m.turn(runs, 2, 3) }

// collect forgets one at a time, till none is found.
func (m *model) collect() int {
	count := 0
	for {
		at := slices.IndexFunc(m.nodes, func(n api.Node) bool {
			return n.State == 3 && !slices.ContainsFunc(m.nodes, func(x api.Node) bool { return x.Ref == n.ID })
		})
		if at < 0 {
			return count
		}
		m.nodes = slices.Delete(slices.Clone(m.nodes), at, at+1)
		count++
	}
}

// way is the identifiers from the beginning to an element.
func (m *model) way(id api.ID) []api.ID {
	if id == beginning {
		return nil
	}
	return append(m.way(m.find(id).Ref), id)
}

// ordered is all nodes in the order of the document: where two ways part, the higher one comes first; where one ends, that one.
func (m *model) ordered() []api.Node {
	ways := map[api.ID][]api.ID{}
	for _, n := range m.nodes {
		ways[n.ID] = m.way(n.ID)
	}
	return slices.SortedFunc(slices.Values(m.nodes), func(a, b api.Node) int {
		return slices.CompareFunc(ways[a.ID], ways[b.ID], func(x, y api.ID) int {
			switch {
			case lower(y, x):
				return -1
			case lower(x, y):
				return 1
			}
			return 0
		})
	})
}

func (m *model) shown() []api.Node {
	return slices.DeleteFunc(m.ordered(), func(n api.Node) bool { return n.State != 1 })
}

func textOf(shown []api.Node) string {
	var b strings.Builder
	for _, n := range shown {
		b.WriteRune(n.Rune)
	}
	return b.String()
}

// wantFind is what Find answers, of a document in its order.
func wantFind(ordered []api.Node, id api.ID) (ahead, state int) {
	for _, n := range ordered {
		if n.ID == id {
			return ahead, n.State
		}
		if n.State == 1 {
			ahead++
		}
	}
	return 0, 0
}

// wantRuns is identifiers as runs: each begins at one that follows no other one.
func wantRuns(nodes []api.Node) []api.Run {
	has := map[api.ID]bool{}
	for _, n := range nodes {
		has[n.ID] = true
	}
	var l []api.Run
	for of := range has {
		if has[id(of.Time-1, of.Site)] {
			continue
		}
		count := 1
		for has[id(of.Time+count, of.Site)] {
			count++
		}
		l = append(l, api.Run{ID: of, Count: count})
	}
	slices.SortFunc(l, func(a, b api.Run) int {
		if lower(a.ID, b.ID) {
			return -1
		}
		return 1
	})
	return l
}

// nodeErrors is all that stands against one node of a list, in the chapter's order.
func nodeErrors(nodes []api.Node, i int) []api.Errno {
	var l []api.Errno
	n := nodes[i]
	ahead := &model{nodes[:i]}
	if !maybe(n.ID) || n.Ref != beginning && !maybe(n.Ref) {
		return append(l, api.ErrArg)
	}
	if !utf8.ValidRune(n.Rune) || !slices.Contains([]int{1, 2, 3}, n.State) {
		l = append(l, api.ErrForm)
	}
	if !lower(n.Ref, n.ID) {
		l = append(l, api.ErrOrder)
	}
	if ahead.find(n.ID) != nil {
		l = append(l, api.ErrExists)
	}
	if ahead.refMissing(n.Ref) {
		l = append(l, api.ErrNone)
	}
	return l
}

func wantLoad(nodes []api.Node) api.Errno {
	for i := range nodes {
		if err := first(nodeErrors(nodes, i)); err != api.OK {
			return err
		}
	}
	if m := (&model{nodes}); !slices.Equal(m.ordered(), nodes) {
		return api.ErrOrder
	}
	return api.OK
}

// pairs is what an iterator hands on, as nodes.
func pairs(all iter.Seq2[api.ID, rune]) []api.Node {
	var l []api.Node
	for id, r := range all {
		l = append(l, api.Node{ID: id, Rune: r})
	}
	return l
}

// pairsOf is what All hands on, of the shown nodes.
func pairsOf(shown []api.Node) []api.Node {
	var l []api.Node
	for _, n := range shown {
		l = append(l, api.Node{ID: n.ID, Rune: n.Rune})
	}
	return l
}

// both is a document, and the same worked out a second time.
type both struct {
	tree  *tree.Tree
	model *model
}

func newBoth() both { return both{tree.New(), &model{}} }

// loaded is the document of these nodes, and the same worked out a second time.
func loaded(nodes []api.Node) both {
	d, err := tree.Load(nodes)
	if err != api.OK {
		panic(err)
	}
	return both{d, &model{slices.Clone(nodes)}}
}
