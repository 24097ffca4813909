package stamp

import (
	"bytes"

	"hearsay/api"
)

// A number is laid in groups of seven binary digits, one group a byte.
const (
	groupBits = 7
	more      = 1 << groupBits // the digit that says that another group follows
	maxGroups = 9              // of the greatest int
)

// Writer lays numbers and texts one behind the other; its zero value has none.
type Writer struct {
	laid []byte
	err  api.Errno
}

// Number lays a number from 0 on.
func (w *Writer) Number(v int) {
	if w.Err() != api.OK {
		return
	}
	if v < 0 {
		w.err = api.ErrArg
		return
	}
	left := uint64(v)
	for ; left >= more; left >>= groupBits {
		w.laid = append(w.laid, byte(left)|more)
	}
	w.laid = append(w.laid, byte(left))
}

// Text lays a text with its length.
func (w *Writer) Text(s string) {
	if w.Err() != api.OK {
		return
	}
	w.Number(len(s))
	w.laid = append(w.laid, s...)
}

// Data is all that was laid ahead of the first error.
func (w *Writer) Data() []byte {
	if w == nil {
		return nil
	}
	return bytes.Clone(w.laid)
}

// Err is why something was not laid: the first error.
func (w *Writer) Err() api.Errno {
	if w == nil {
		return api.ErrArg
	}
	return w.err
}

// Reader takes numbers and texts again; its zero value has none.
type Reader struct {
	left []byte
	err  api.Errno
}

// Read is a Reader of a copy of these bytes.
func Read(b []byte) *Reader {
	return &Reader{left: bytes.Clone(b)}
}

// Number takes a number.
func (r *Reader) Number() int {
	v, width := r.number()
	r.take(width)
	return v
}

// Text takes a text.
func (r *Reader) Text() string {
	// The length is taken together with its bytes alone: where these are too few, it is left too.
	n, width := r.number()
	if r.Err() != api.OK {
		return ""
	}
	if n > r.Left()-width {
		r.err = api.ErrShort
		return ""
	}
	s := string(r.left[width : width+n])
	r.take(width + n)
	return s
}

// number is the number that stands next, and how many bytes it has: none of both, if the Reader stops.
func (r *Reader) number() (v, width int) {
	if r.Err() != api.OK {
		return 0, 0
	}
	var sum uint64
	why := api.ErrShort
	for i, b := range r.left {
		sum |= uint64(b%more) << (groupBits * i)
		last := b < more
		if last && b == 0 && i > 0 || !last && i+1 == maxGroups {
			why = api.ErrForm
			goto stop
		}
		if last {
			return int(sum), i + 1
		}
	}
stop:
	r.err = why
	return 0, 0
}

// take takes the next bytes, so many.
func (r *Reader) take(n int) {
	if r != nil {
		r.left = r.left[n:]
	}
}

// Left is how many bytes were not taken.
func (r *Reader) Left() int {
	if r == nil {
		return 0
	}
	return len(r.left)
}

// Err is why something was not taken, api.OK as long as all was.
func (r *Reader) Err() api.Errno {
	if r == nil {
		return api.ErrArg
	}
	return r.err
}

// End is Err, or that something is left.
func (r *Reader) End() api.Errno {
	if r.Err() == api.OK && r.Left() > 0 {
		return api.ErrForm
	}
	return r.Err()
}
