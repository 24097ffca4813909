package frame

// turn is what a digit that is shifted out turns in the rest of the word.
const turn = 0xedb88320

// Sum is the sum of bytes.
func Sum(p []byte) uint32 {
	table := halves()
	word := ^uint32(0)
	for _, c := range p {
		word ^= uint32(c)
		word = word>>4 ^ table[word&0xf]
		word = word>>4 ^ table[word&0xf]
	}
	return ^word
}

// halves is what each half of a byte turns in the word while it is shifted out: the digits ahead of it do not matter for that, so four steps are one.
func halves() [16]uint32 {
	var table [16]uint32
	for half := range table {
		word := uint32(half)
		for range 4 {
			word = shifted(word)
		}
		table[half] = word
	}
	return table
}

func shifted(word uint32) uint32 {
	if word&1 == 1 {
		return word>>1 ^ turn
	}
	return word >> 1
}

// wordSize is how many bytes the length has ahead of the body, and the sum behind it.
const wordSize = 4

// appendWord lays a word behind b, its lowest byte first.
func appendWord(b []byte, word uint32) []byte {
	for range wordSize {
		b = append(b, byte(word))
		word >>= 8
	}
	return b
}

// wordOf is the word that these bytes are.
func wordOf(b []byte) uint32 {
	var word uint32
	for i, c := range b {
		word |= uint32(c) << (8 * i)
	}
	return word
}
