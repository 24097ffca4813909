package alarm

// timer is what runs for a key.
type timer struct {
	key, gap, due int
	at            int // its place in the queue, from which it may be taken at any time
}

// queue is timers as a heap: at the place 0 stands the first one.
type queue []*timer

// Len is how many timers there are.
func (q queue) Len() int { return len(q) }

// Less tells whether the timer at i comes ahead of the one at k.
func (q queue) Less(i, k int) bool {
	if q[i].due != q[k].due {
		return q[i].due < q[k].due
	}
	return q[i].key < q[k].key
}

// Swap puts two timers into each other's places.
func (q queue) Swap(i, k int) {
	q[i], q[k] = q[k], q[i]
	q[i].at, q[k].at = i, k
}

// Push lays a timer behind all others; heap.Push calls it, and moves it to its place.
func (q *queue) Push(x any) {
	t := x.(*timer)
	t.at = len(*q)
	*q = append(*q, t)
}

// Pop takes the last timer away, to which heap.Remove has moved the one that goes.
func (q *queue) Pop() any {
	end := len(*q) - 1
	t := (*q)[end]
	(*q)[end] = nil // else the room behind the end would hold on to it
	*q = (*q)[:end]
	return t
}
