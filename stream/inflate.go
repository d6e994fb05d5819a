package stream

import "bindery/api"

const (
	maxHlit    = 29
	maxHdist   = 29
	allLengths = 19
)

// The symbols of the lengths that are no lengths themselves.
const (
	copyAhead  = 16
	zerosShort = 17
)

// lengthOrder is the order in which the lengths of the lengths come.
var lengthOrder = [allLengths]int{16, 17, 18, 0, 8, 7, 9, 6, 10, 5, 11, 4, 12, 3, 13, 2, 14, 1, 15}

// Inflate tells what comes out of the stream that s begins with, and how many bytes of s it has.
// What is wrong is ErrMany, or a *Fault that tells the place and wraps what it was.
func Inflate(s string, limit int) (string, int, error) {
	if len(s) > api.MaxStream || limit < 0 || limit > api.MaxStream {
		return "", 0, ErrMany
	}
	d := inflater{in: bitReader{text: s}, limit: limit, fixed: fixedCodes()}
	if err := d.blocks(); err != nil {
		return "", 0, &Fault{Bit: d.in.at, Err: err}
	}
	return string(d.out), d.in.used(), nil
}

type inflater struct {
	in    bitReader
	out   []byte
	limit int
	fixed codes // made once: a stream may have thousands of blocks
}

// codes are what the symbols of a block are read by.
type codes struct{ literals, distances code }

func fixedCodes() codes {
	return codes{codeOf(fixedLiterals()), codeOf(fixedDistances())}
}

func (d *inflater) put(c byte) error {
	if len(d.out) >= d.limit {
		return ErrLimit
	}
	d.out = append(d.out, c)
	return nil
}

func (d *inflater) blocks() error {
	for {
		last, err := d.in.bit()
		if err != nil {
			return err
		}
		kind, err := d.in.number(2)
		if err != nil {
			return err
		}
		if err := d.block(kind); err != nil {
			return err
		}
		if last == 1 {
			return nil
		}
	}
}

func (d *inflater) block(kind int) error {
	switch kind {
	case kindStored:
		return d.stored()
	case kindFixed:
		return d.symbols(d.fixed)
	case kindOwn:
		c, err := d.ownCodes()
		if err != nil {
			return err
		}
		return d.symbols(c)
	}
	return ErrKind
}

// stored takes its bytes one by one, so that those which are there come out ahead of a missing one.
func (d *inflater) stored() error {
	d.in.passByte()
	length, err := d.in.number(16)
	if err != nil {
		return err
	}
	turned, err := d.in.number(16)
	if err != nil {
		return err
	}
	if turned != length^0xffff {
		return ErrTurned
	}
	for range length {
		c, err := d.in.number(8)
		if err != nil {
			return err
		}
		if err := d.put(byte(c)); err != nil {
			return err
		}
	}
	return nil
}

func (d *inflater) symbols(c codes) error {
	for {
		symbol, err := c.literals.read(&d.in)
		if err != nil {
			return err
		}
		if symbol == endOfBlock {
			return nil
		}
		if symbol < endOfBlock {
			err = d.put(byte(symbol))
		} else {
			err = d.repeat(symbol, c.distances)
		}
		if err != nil {
			return err
		}
	}
}

// repeat reads what belongs to a length's symbol before anything comes out: a distance that is wrong is told ahead of the limit.
func (d *inflater) repeat(symbol int, distances code) error {
	if symbol > lastLength {
		return ErrSymbol
	}
	length, err := d.in.within(lengthSpan(symbol))
	if err != nil {
		return err
	}
	back, err := d.distance(distances)
	if err != nil {
		return err
	}
	if back > len(d.out) {
		return ErrFar
	}
	for range length {
		if err := d.put(d.out[len(d.out)-back]); err != nil {
			return err
		}
	}
	return nil
}

func (d *inflater) distance(distances code) (int, error) {
	symbol, err := distances.read(&d.in)
	if err != nil {
		return 0, err
	}
	if symbol > lastDistance {
		return 0, ErrSymbol
	}
	return d.in.within(distanceSpan(symbol))
}

// ownCodes reads the codes that a block of kind 2 begins with.
func (d *inflater) ownCodes() (codes, error) {
	hlit, err := d.in.number(5)
	if err != nil {
		return codes{}, err
	}
	hdist, err := d.in.number(5)
	if err != nil {
		return codes{}, err
	}
	if hlit > maxHlit || hdist > maxHdist {
		return codes{}, ErrCounts
	}
	c, err := d.lengthsCode()
	if err != nil {
		return codes{}, err
	}
	literals := hlit + firstLength
	row, err := d.row(c, literals+hdist+1)
	if err != nil {
		return codes{}, err
	}
	return codesOf(row[:literals], row[literals:])
}

func codesOf(literals, distances []int) (codes, error) {
	if literals[endOfBlock] == 0 {
		return codes{}, ErrNoEnd
	}
	l, err := rightCode(literals)
	if err != nil {
		return codes{}, err
	}
	d, err := distanceCode(distances)
	if err != nil {
		return codes{}, err
	}
	return codes{l, d}, nil
}

// lengthsCode reads the code that the lengths are written by.
func (d *inflater) lengthsCode() (code, error) {
	hclen, err := d.in.number(4)
	if err != nil {
		return code{}, err
	}
	lengths := make([]int, allLengths)
	for i := range hclen + 4 {
		n, err := d.in.number(3)
		if err != nil {
			return code{}, err
		}
		lengths[lengthOrder[i]] = n
	}
	return rightCode(lengths)
}

// row reads so many lengths: those of the symbols and of the distances are one row, and a repetition may go over from these to those.
func (d *inflater) row(c code, many int) ([]int, error) {
	row := make([]int, 0, many)
	for len(row) < many {
		symbol, err := c.read(&d.in)
		if err != nil {
			return nil, err
		}
		if symbol < copyAhead {
			row = append(row, symbol)
			continue
		}
		length, err := repeatedLength(symbol, row)
		if err != nil {
			return nil, err
		}
		times, err := d.in.within(timesSpan(symbol))
		if err != nil {
			return nil, err
		}
		if len(row)+times > many {
			return nil, ErrRow
		}
		for range times {
			row = append(row, length)
		}
	}
	return row, nil
}

// repeatedLength is what comes again: the one ahead, or 0.
func repeatedLength(symbol int, row []int) (int, error) {
	if symbol != copyAhead {
		return 0, nil
	}
	if len(row) == 0 {
		return 0, ErrNoneAhead
	}
	return row[len(row)-1], nil
}

// timesSpan tells how often a length may come again.
func timesSpan(symbol int) span {
	switch symbol {
	case copyAhead:
		return span{3, 2}
	case zerosShort:
		return span{3, 3}
	}
	return span{11, 7}
}
