// Package stream reads and writes streams of DEFLATE, as RFC 1951 has it.
package stream

import (
	"errors"
	"strconv"
)

// ErrMany is told ahead of any reading: a text or a limit that is out of bounds.
var ErrMany = errors.New("more bytes than a stream may have")

// ErrLimit is told inside a Fault, though the bytes may well be a stream.
var ErrLimit = errors.New("more comes out than the limit allows")

// These are told inside a Fault: by which rule the bytes are no stream.
var (
	ErrShort     = errors.New("the bytes end ahead of the stream's end")
	ErrKind      = errors.New("a block of kind 3")
	ErrTurned    = errors.New("the length of a block and its turned bits do not agree")
	ErrCounts    = errors.New("more symbols or distances than there can be")
	ErrNoneAhead = errors.New("a length is to come again, and none is ahead")
	ErrRow       = errors.New("more lengths than there are to be")
	ErrLengths   = errors.New("lengths that are not right")
	ErrNoEnd     = errors.New("the symbol that ends the block has no code")
	ErrCode      = errors.New("bits that are no symbol's code")
	ErrSymbol    = errors.New("a symbol that has no meaning")
	ErrFar       = errors.New("a distance farther back than what came out")
)

// Fault is why reading stopped ahead of a stream's end, and where.
type Fault struct {
	Bit int // how many bits had been read
	Err error
}

func (f *Fault) Error() string {
	return "stream, bit " + strconv.Itoa(f.Bit) + ": " + f.Err.Error()
}

// Unwrap lets errors.Is find the rule that was broken.
func (f *Fault) Unwrap() error { return f.Err }

// The kinds of blocks.
const (
	kindStored = 0
	kindFixed  = 1
	kindOwn    = 2
)

// The symbols of a block: bytes, then the end, then lengths.
const (
	endOfBlock   = 256
	firstLength  = 257
	lastLength   = 285
	lastDistance = 29
)

// The lengths that a repetition can have.
const (
	minLength = 3
	maxLength = 258
)
