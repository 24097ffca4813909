package fair

import "slices"

const wordBits = 64

// pairSet is some of the pairs that there are, each a bit of a word.
type pairSet struct {
	words []uint64
	all   int // how many pairs there are
	count int // how many of them are in the set
}

// newPairSet is a set that has none of so many pairs.
func newPairSet(all int) *pairSet {
	return &pairSet{words: make([]uint64, (all-1)/wordBits+1), all: all}
}

// fill takes all pairs in.
func (s *pairSet) fill() {
	for pair := range s.all {
		word, bit := where(pair)
		s.words[word] |= bit
	}
	s.count = s.all
}

// remove takes a pair out, if it is there; it answers how many are left.
func (s *pairSet) remove(pair int) int {
	word, bit := where(pair)
	if s.words[word]&bit != 0 {
		s.words[word] &^= bit
		s.count--
	}
	return s.count
}

// where is the word that has a pair's bit, and that bit.
func where(pair int) (int, uint64) { return pair / wordBits, 1 << (pair % wordBits) }

// pairCount is how many pairs of unlike ones so many sites make; each way round is one.
func pairCount(sites int) int { return sites * max(sites-1, 0) }

// pairOf is the number of the pair that two sites make, if they are unlike and both among the sites.
func pairOf(sites []int, from, to int) (int, bool) {
	i, known := slices.BinarySearch(sites, from)
	k, heard := slices.BinarySearch(sites, to)
	if !known || !heard || i == k {
		return 0, false
	}
	if k > i {
		k-- // no site is paired with itself
	}
	return i*(len(sites)-1) + k, true
}
