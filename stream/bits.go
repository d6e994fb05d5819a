package stream

// bitReader reads a text bit by bit.
type bitReader struct {
	text string
	at   int // how many bits have been read
}

func (r *bitReader) bit() (int, error) {
	if r.at == 8*len(r.text) {
		return 0, ErrShort
	}
	b := r.text[r.at/8] >> (r.at % 8) & 1
	r.at++
	return int(b), nil
}

// number reads n bits, the lowest first.
func (r *bitReader) number(n int) (int, error) {
	v := 0
	for i := range n {
		b, err := r.bit()
		if err != nil {
			return 0, err
		}
		v |= b << i
	}
	return v, nil
}

// within reads which one of a span is meant.
func (r *bitReader) within(s span) (int, error) {
	more, err := r.number(s.more)
	if err != nil {
		return 0, err
	}
	return s.base + more, nil
}

// passByte goes on to the next byte, if some of this one has been read.
func (r *bitReader) passByte() { r.at = 8 * r.used() }

// used is how many bytes have been read, the last one maybe in part.
func (r *bitReader) used() int { return (r.at + 7) / 8 }

// bitWriter writes bytes bit by bit.
type bitWriter struct {
	out []byte
	at  int // how many bits have been written
}

func (w *bitWriter) bit(b int) {
	if w.at%8 == 0 {
		w.out = append(w.out, 0)
	}
	w.out[w.at/8] |= byte(b << (w.at % 8))
	w.at++
}

// number writes n bits, the lowest first.
func (w *bitWriter) number(v, n int) {
	for i := range n {
		w.bit(v >> i & 1)
	}
}

// word writes a code, the highest bit first.
func (w *bitWriter) word(c word) {
	for i := c.length - 1; i >= 0; i-- {
		w.bit(c.bits >> i & 1)
	}
}
