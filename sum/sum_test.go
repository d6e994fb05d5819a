package sum

import (
	"crypto/sha256"
	"encoding/hex"
	"strings"
	"testing"
)

// patterned has no two neighbouring blocks alike, so that blocks swapped or left out are seen.
func patterned(n int) string {
	b := make([]byte, n)
	for i := range b {
		b[i] = byte(i*7 + i/64*13 + i/256)
	}
	return string(b)
}

func TestOfAtEveryLengthUpToFiveBlocks(t *testing.T) {
	for n := range 5*blockSize + 1 {
		s := patterned(n)
		if got, want := Of(s), sha256.Sum256([]byte(s)); got != want {
			t.Errorf("P3: Of(%d bytes) = %x, want %x", n, got, want)
		}
	}
}

func TestOfOfEverySingleByte(t *testing.T) {
	for c := range 256 {
		s := string([]byte{byte(c)})
		if got, want := Of(s), sha256.Sum256([]byte(s)); got != want {
			t.Errorf("P3: Of(byte %d) = %x, want %x", c, got, want)
		}
	}
}

func TestPadTakesOneBlockMoreFrom56On(t *testing.T) {
	for n := range blockSize {
		want := blockSize
		if n >= 56 {
			want = 2 * blockSize
		}
		if got := len(pad(strings.Repeat("a", n), n)); got != want {
			t.Errorf("P3: a tail of %d bytes is padded to %d, want %d", n, got, want)
		}
	}
}

// A length of more than 32 bits can't be tried with a real text; the padding is asked by itself.
func TestPadTellsTheLengthInEightBytes(t *testing.T) {
	p := pad("", 0x0123456789abcdc0)
	if got, want := p[len(p)-lengthSize:], "\x09\x1a\x2b\x3c\x4d\x5e\x6e\x00"; got != want {
		t.Errorf("P3: length %x, want %x", got, want)
	}
}

func TestTextWritesTwoDigitsForEachByte(t *testing.T) {
	var sum [Size]byte
	for start := 0; start < 256; start += Size {
		for i := range sum {
			sum[i] = byte(start + i)
		}
		if got, want := Text(sum), hex.EncodeToString(sum[:]); got != want {
			t.Errorf("P3: Text = %q, want %q", got, want)
		}
	}
}

func FuzzOf(f *testing.F) {
	f.Add("")
	f.Add("abc")
	f.Add(patterned(56))
	f.Fuzz(func(t *testing.T, s string) {
		if got, want := Of(s), sha256.Sum256([]byte(s)); got != want {
			t.Errorf("P3: Of(%q) = %x, want %x", s, got, want)
		}
	})
}

func TestIsTextOfWhatTextWrites(t *testing.T) {
	text := Text(Of("abc"))
	if !IsText(text) || !IsText(strings.Repeat("0123456789abcdef", 4)) {
		t.Errorf("%q is a text of a sum", text)
	}
	for n := range text {
		if IsText(text[:n]) {
			t.Errorf("%q is too short", text[:n])
		}
	}
	for _, s := range []string{text + "0", text + text, strings.ToUpper(text), text[:63] + "g", "/" + text[1:], ":" + text[1:], "`" + text[1:], text[:63] + "\n", text[:62] + "\u00e9"} {
		if IsText(s) {
			t.Errorf("%q is no text of a sum", s)
		}
	}
}
