package stream

import "bindery/api"

// Deflate writes a stream that s comes out of: one block, by the fixed codes or as it is, whichever is shorter.
func Deflate(s string) (string, error) {
	if len(s) > api.MaxStream {
		return "", ErrMany
	}
	packed, plain := fixedBlock(s), storedBlock(s)
	if len(plain) < len(packed) {
		return string(plain), nil
	}
	return string(packed), nil
}

// storedBlock needs no second block: MaxStream is less than the 65535 bytes that one can hold.
func storedBlock(s string) []byte {
	var w bitWriter
	w.number(1, 1)
	w.number(kindStored, 2)
	w.number(0, 5)
	w.number(len(s), 16)
	w.number(len(s)^0xffff, 16)
	return append(w.out, s...)
}

func fixedBlock(s string) []byte {
	d := deflater{literals: wordsOf(fixedLiterals()), distances: wordsOf(fixedDistances())}
	d.out.number(1, 1)
	d.out.number(kindFixed, 2)
	f := newFinder(s)
	for at := 0; at < len(s); {
		length, back := f.longest(at)
		if length < minLength {
			length = 1
			d.literal(s[at])
		} else {
			d.repeat(length, back)
		}
		f.pass(at, at+length)
		at += length
	}
	d.out.word(d.literals[endOfBlock])
	return d.out.out
}

type deflater struct {
	out                 bitWriter
	literals, distances []word
}

func (d *deflater) literal(c byte) { d.out.word(d.literals[c]) }

func (d *deflater) repeat(length, back int) {
	symbol := lengthSymbol(length)
	d.out.word(d.literals[symbol])
	d.within(length, lengthSpan(symbol))
	symbol = distanceSymbol(back)
	d.out.word(d.distances[symbol])
	d.within(back, distanceSpan(symbol))
}

func (d *deflater) within(v int, s span) { d.out.number(v-s.base, s.more) }
