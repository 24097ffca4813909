package vector_test

import (
	"encoding/binary"
	"slices"

	"hearsay/api"
	"hearsay/stamp"
)

// What the chapter says, worked out a second time by other means: sorted lists, sets of Dots, and the library's numbers as bytes.

// wantGet sorts what stands with a site, and looks at the end.
func wantGet(v api.Vector, site int) int {
	var seqs []int
	for _, d := range v {
		if d.Site == site && d.Seq > 0 && d.Seq <= api.MaxSeq {
			seqs = append(seqs, d.Seq)
		}
	}
	if site < 1 || site > api.MaxSites || len(seqs) == 0 {
		return 0
	}
	slices.Sort(seqs)
	return seqs[len(seqs)-1]
}

// wantVector is the vector of a list.
func wantVector(v api.Vector) api.Vector {
	return wantEach(func(site int) int { return wantGet(v, site) })
}

// wantEach is the vector that says this of each site.
func wantEach(says func(site int) int) api.Vector {
	var l api.Vector
	for site := 1; site <= api.MaxSites; site++ {
		if n := says(site); n != 0 {
			l = append(l, dot(site, n))
		}
	}
	return l
}

func wantMerge(a, b api.Vector) api.Vector {
	return wantVector(append(slices.Clone(a), b...))
}

func wantLeast(a, b api.Vector) api.Vector {
	return wantEach(func(site int) int {
		both := []int{wantGet(a, site), wantGet(b, site)}
		slices.Sort(both)
		return both[0]
	})
}

func wantCovers(a, b api.Vector) bool {
	for _, d := range wantVector(b) {
		if d.Seq > wantGet(a, d.Site) {
			return false
		}
	}
	return true
}

func wantSum(v api.Vector) int {
	sum := 0
	for _, d := range wantVector(v) {
		sum += d.Seq
	}
	return sum
}

// offences is what is wrong with one Dot of a list, by itself and with the one ahead, the first one first.
func offences(v api.Vector, i int) []api.Errno {
	var l []api.Errno
	if v[i].Site < 1 || v[i].Site > api.MaxSites {
		l = append(l, api.ErrArg)
	}
	if v[i].Seq < 1 || v[i].Seq > api.MaxSeq {
		l = append(l, api.ErrForm)
	}
	if i > 0 && v[i].Site <= v[i-1].Site {
		l = append(l, api.ErrOrder)
	}
	return l
}

func wantCheck(v api.Vector) api.Errno {
	var all []api.Errno
	for i := range v {
		all = append(all, offences(v, i)...)
	}
	return append(all, api.OK)[0]
}

func wantAdd(v api.Vector, d api.Dot) (api.Vector, api.Errno) {
	var all []api.Errno
	if d.Site < 1 || d.Site > api.MaxSites || d.Seq < 1 {
		all = append(all, api.ErrArg)
	}
	if d.Seq > api.MaxSeq {
		all = append(all, api.ErrFull)
	}
	if int64(d.Seq) != int64(wantGet(v, d.Site))+1 {
		all = append(all, api.ErrOrder)
	}
	if len(all) > 0 {
		return nil, all[0]
	}
	return wantMerge(v, api.Vector{d}), api.OK
}

// dots is the set of all operations that a list has: for small Seqs alone.
func dots(v api.Vector) map[api.Dot]bool {
	set := map[api.Dot]bool{}
	for _, d := range wantVector(v) {
		for n := 1; n <= d.Seq; n++ {
			set[dot(d.Site, n)] = true
		}
	}
	return set
}

// row is numbers as bytes.
func row(numbers ...int) []byte {
	var b []byte
	for _, n := range numbers {
		b = binary.AppendUvarint(b, uint64(n))
	}
	return b
}

// wantNumbers is what Put lays.
func wantNumbers(v api.Vector) []int {
	l := wantVector(v)
	numbers := []int{len(l)}
	for _, d := range l {
		numbers = append(numbers, d.Site, d.Seq)
	}
	return numbers
}

// offends tells whether the number at i offends, where all ahead of it are right.
func offends(numbers []int, i int) bool {
	n := numbers[i]
	switch {
	case i == 0:
		return n > api.MaxSites
	case i%2 == 0:
		return n < 1 || n > api.MaxSeq
	}
	return n < 1 || n > api.MaxSites || i > 1 && n <= numbers[i-2]
}

// pairs is the Dots of Sites and Seqs, one behind the other.
func pairs(numbers []int) api.Vector {
	var v api.Vector
	for pair := range slices.Chunk(numbers, 2) {
		v = append(v, dot(pair[0], pair[1]))
	}
	return v
}

// wantTake takes all numbers there are first, then asks which one offends, and where the vector ends.
func wantTake(b []byte) (v api.Vector, left int, err api.Errno) {
	r := stamp.Read(b)
	var numbers, lefts []int
	for n := r.Number(); r.Err() == api.OK; n = r.Number() {
		numbers, lefts = append(numbers, n), append(lefts, r.Left())
	}
	for i := range numbers {
		if offends(numbers, i) {
			return nil, lefts[i], api.ErrForm
		}
		if i == 2*numbers[0] {
			return pairs(numbers[1 : i+1]), lefts[i], api.OK
		}
	}
	return nil, r.Left(), r.Err()
}
