package editor

import (
	"iter"

	"hearsay/api"
	"hearsay/replica"
)

// moving does a call that may take elements out of what is shown, and moves the anchors that stood behind these. The call is taken as a whole, however many operations it has.
func moving[T any](e *Editor, call func() (T, api.Errno)) (T, api.Errno) {
	if len(e.anchors) == 0 {
		return call()
	}
	var before []api.ID
	for id := range shown(e.replica) {
		before = append(before, id)
	}
	answer, err := call()
	if err == api.OK {
		e.moveAnchors(before)
	}
	return answer, err
}

// shown goes through the elements that are shown, in their order.
func shown(r *replica.Replica) iter.Seq[api.ID] {
	return func(yield func(api.ID) bool) {
		// By the image, as asking for each by its number would go through the document each time.
		for _, n := range r.Image().Nodes {
			if n.State == api.StateShown && !yield(n.ID) {
				return
			}
		}
	}
}

// moveAnchors lets each anchor stand behind its element, if that is still shown, else behind the nearest one ahead of it that was shown before and still is.
func (e *Editor) moveAnchors(before []api.ID) {
	still := map[api.ID]int{}
	for id := range shown(e.replica) {
		still[id]++
	}
	// What is not in the list is the beginning, which is what a map answers that has not got it.
	nearest := map[api.ID]api.ID{}
	last := api.ID{}
	for _, id := range before {
		if still[id] > 0 {
			last = id
		}
		nearest[id] = last
	}
	moved := map[int]api.ID{}
	for mark, id := range e.anchors {
		moved[mark] = nearest[id]
	}
	e.anchors = moved
}
