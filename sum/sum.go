// Package sum reckons the SHA-256 of texts, as FIPS 180-4 has it.
package sum

import (
	"math/bits"
	"strings"
)

// Size is how many bytes a sum has.
const Size = 32

const (
	blockSize  = 64
	lengthSize = 8
	rounds     = 64
	digits     = "0123456789abcdef"
)

// roundKeys are the first 32 bits of the fractions of the cube roots of the first 64 primes.
var roundKeys = [rounds]uint32{
	0x428a2f98, 0x71374491, 0xb5c0fbcf, 0xe9b5dba5, 0x3956c25b, 0x59f111f1, 0x923f82a4, 0xab1c5ed5,
	0xd807aa98, 0x12835b01, 0x243185be, 0x550c7dc3, 0x72be5d74, 0x80deb1fe, 0x9bdc06a7, 0xc19bf174,
	0xe49b69c1, 0xefbe4786, 0x0fc19dc6, 0x240ca1cc, 0x2de92c6f, 0x4a7484aa, 0x5cb0a9dc, 0x76f988da,
	0x983e5152, 0xa831c66d, 0xb00327c8, 0xbf597fc7, 0xc6e00bf3, 0xd5a79147, 0x06ca6351, 0x14292967,
	0x27b70a85, 0x2e1b2138, 0x4d2c6dfc, 0x53380d13, 0x650a7354, 0x766a0abb, 0x81c2c92e, 0x92722c85,
	0xa2bfe8a1, 0xa81a664b, 0xc24b8b70, 0xc76c51a3, 0xd192e819, 0xd6990624, 0xf40e3585, 0x106aa070,
	0x19a4c116, 0x1e376c08, 0x2748774c, 0x34b0bcb5, 0x391c0cb3, 0x4ed8aa4a, 0x5b9cca4f, 0x682e6ff3,
	0x748f82ee, 0x78a5636f, 0x84c87814, 0x8cc70208, 0x90befffa, 0xa4506ceb, 0xbef9a3f7, 0xc67178f2,
}

// state is what is carried from block to block.
type state [8]uint32

// Of tells the sum of a text.
func Of(s string) [Size]byte {
	whole := len(s) - len(s)%blockSize
	// The tail is padded by itself, so that a long text is never copied.
	h := foldAll(start(), s[:whole])
	h = foldAll(h, pad(s[whole:], len(s)))
	return bytesOf(h)
}

// Text writes a sum as digits and letters a to f.
func Text(sum [Size]byte) string {
	var b strings.Builder
	b.Grow(2 * Size)
	for _, c := range sum {
		b.WriteByte(digits[c>>4])
		b.WriteByte(digits[c&15])
	}
	return b.String()
}

// IsText tells whether s is written as Text writes sums.
func IsText(s string) bool {
	if len(s) != 2*Size {
		return false
	}
	for i := range len(s) {
		if strings.IndexByte(digits, s[i]) < 0 {
			return false
		}
	}
	return true
}

// start is the first 32 bits of the fractions of the square roots of the first 8 primes.
func start() state {
	return state{
		0x6a09e667, 0xbb67ae85, 0x3c6ef372, 0xa54ff53a,
		0x510e527f, 0x9b05688c, 0x1f83d9ab, 0x5be0cd19,
	}
}

// pad fills the tail of a text of n bytes up to whole blocks.
func pad(tail string, n int) string {
	used := len(tail) + 1 + lengthSize
	zeros := (blockSize - used%blockSize) % blockSize
	var b strings.Builder
	b.WriteString(tail)
	b.WriteByte(0x80)
	for range zeros {
		b.WriteByte(0)
	}
	inBits := uint64(n) * 8
	for shift := 56; shift >= 0; shift -= 8 {
		b.WriteByte(byte(inBits >> shift))
	}
	return b.String()
}

// foldAll takes the blocks of a text, whose length is a whole number of them, into the state.
func foldAll(h state, s string) state {
	for i := 0; i < len(s); i += blockSize {
		h = fold(h, s[i:i+blockSize])
	}
	return h
}

func fold(h state, block string) state {
	w := schedule(block)
	next := h
	for i := range rounds {
		next = round(next, roundKeys[i]+w[i])
	}
	for i := range next {
		next[i] += h[i]
	}
	return next
}

// schedule stretches a block to one word for each round.
func schedule(block string) [rounds]uint32 {
	var w [rounds]uint32
	for i := range 16 {
		w[i] = wordAt(block, 4*i)
	}
	for i := 16; i < rounds; i++ {
		w[i] = w[i-16] + smallSigma0(w[i-15]) + w[i-7] + smallSigma1(w[i-2])
	}
	return w
}

func wordAt(s string, i int) uint32 {
	return uint32(s[i])<<24 | uint32(s[i+1])<<16 | uint32(s[i+2])<<8 | uint32(s[i+3])
}

// round is one step of the folding; key is the round's constant and its word together.
func round(h state, key uint32) state {
	a, b, c, d, e, f, g := h[0], h[1], h[2], h[3], h[4], h[5], h[6]
	t1 := h[7] + bigSigma1(e) + choose(e, f, g) + key
	t2 := bigSigma0(a) + majority(a, b, c)
	return state{t1 + t2, a, b, c, d + t1, e, f, g}
}

func choose(x, y, z uint32) uint32   { return x&y ^ ^x&z }
func majority(x, y, z uint32) uint32 { return x&y ^ x&z ^ y&z }

func bigSigma0(x uint32) uint32   { return turn(x, 2) ^ turn(x, 13) ^ turn(x, 22) }
func bigSigma1(x uint32) uint32   { return turn(x, 6) ^ turn(x, 11) ^ turn(x, 25) }
func smallSigma0(x uint32) uint32 { return turn(x, 7) ^ turn(x, 18) ^ x>>3 }
func smallSigma1(x uint32) uint32 { return turn(x, 17) ^ turn(x, 19) ^ x>>10 }

// turn rotates to the right, as FIPS 180-4 writes it; the library rotates to the left.
func turn(x uint32, n int) uint32 { return bits.RotateLeft32(x, -n) }

func bytesOf(h state) [Size]byte {
	var sum [Size]byte
	for i, word := range h {
		for j := range 4 {
			sum[4*i+j] = byte(word >> (24 - 8*j))
		}
	}
	return sum
}
