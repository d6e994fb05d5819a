package stream

import "slices"

const (
	maxBits      = 15 // of a symbol's code
	allLiterals  = 288
	allDistances = 32
)

// counts tells of each length how many symbols have it; of 0, which is no code's, it tells none.
type counts [maxBits + 1]int

func countsOf(lengths []int) counts {
	var c counts
	for _, n := range lengths {
		c[n]++
	}
	c[0] = 0
	return c
}

// right tells whether every row of bits begins with just one symbol's code.
func (c counts) right() bool {
	sum := 0
	for n, many := range c {
		sum += many << (maxBits - n)
	}
	return sum == 1<<maxBits
}

// atMostOneBit tells whether there is no code at all, or just one and that of one bit.
func (c counts) atMostOneBit() bool {
	return c == counts{} || c == counts{1: 1}
}

// code is what symbols are read by.
type code struct {
	counts  counts
	symbols []int // those that have a code, in the order of their codes
}

// codeOf takes lengths whose counts are right, or tell at most one bit.
func codeOf(lengths []int) code {
	c := code{counts: countsOf(lengths)}
	var next [maxBits + 2]int
	for n, many := range c.counts {
		next[n+1] = next[n] + many
	}
	c.symbols = make([]int, next[maxBits+1])
	for symbol, n := range lengths {
		if n != 0 {
			c.symbols[next[n]] = symbol
			next[n]++
		}
	}
	return c
}

// rightCode is for lengths of the lengths and of the symbols.
func rightCode(lengths []int) (code, error) {
	if !countsOf(lengths).right() {
		return code{}, ErrLengths
	}
	return codeOf(lengths), nil
}

// distanceCode is for lengths of the distances, of which a block may need none or only one.
func distanceCode(lengths []int) (code, error) {
	c := countsOf(lengths)
	if !c.right() && !c.atMostOneBit() {
		return code{}, ErrLengths
	}
	return codeOf(lengths), nil
}

// read takes bits as long as a longer code may still begin with them.
func (c code) read(r *bitReader) (int, error) {
	got, first, passed := 0, 0, 0 // the bits; the first code of their length; the symbols of shorter ones
	for n := 1; passed < len(c.symbols); n++ {
		b, err := r.bit()
		if err != nil {
			return 0, err
		}
		got = got<<1 | b
		first <<= 1
		if got-first < c.counts[n] {
			return c.symbols[passed+got-first], nil
		}
		first += c.counts[n]
		passed += c.counts[n]
	}
	return 0, ErrCode
}

// word is what a symbol is written by.
type word struct{ bits, length int }

// wordsOf tells each symbol's word.
func wordsOf(lengths []int) []word {
	c := countsOf(lengths)
	var next [maxBits + 1]int
	for n := 1; n <= maxBits; n++ {
		next[n] = (next[n-1] + c[n-1]) << 1
	}
	words := make([]word, len(lengths))
	for symbol, n := range lengths {
		words[symbol] = word{next[n], n}
		next[n]++
	}
	return words
}

func fixedLiterals() []int {
	lengths := make([]int, allLiterals)
	for symbol := range lengths {
		switch {
		case symbol <= 143:
			lengths[symbol] = 8
		case symbol <= 255:
			lengths[symbol] = 9
		case symbol <= 279:
			lengths[symbol] = 7
		default:
			lengths[symbol] = 8
		}
	}
	return lengths
}

func fixedDistances() []int { return slices.Repeat([]int{5}, allDistances) }
