package stream

import (
	"errors"
	"strings"
	"testing"
)

func comesOutAgain(t *testing.T, what, s string, stream []byte) {
	t.Helper()
	out, used, err := Inflate(string(stream), len(s))
	if out != s || used != len(stream) || err != nil {
		t.Errorf("P5: %s of %d bytes: %d bytes, %d of %d, %v", what, len(s), len(out), used, len(stream), err)
	}
}

func TestBothBlocksHoldTheText(t *testing.T) {
	for n := range 700 {
		s := colourful(n)
		comesOutAgain(t, "a fixed block", s, fixedBlock(s))
		comesOutAgain(t, "a stored block", s, storedBlock(s))
		if got := len(storedBlock(s)); got != n+5 {
			t.Errorf("P5: a stored block of %d bytes has %d", n, got)
		}
	}
}

func TestTheShorterBlockIsTaken(t *testing.T) {
	texts := []string{"", "a", "\xff\xff", strings.Repeat("ab", 90), colourful(256)}
	for n := 1; n <= 96; n++ {
		b := make([]byte, n)
		for i := range b {
			b[i] = byte(0xff - i) // nine bits each: from some length on a stored block is shorter
		}
		texts = append(texts, string(b))
	}
	for _, s := range texts {
		got, err := Deflate(s)
		want := min(len(fixedBlock(s)), len(storedBlock(s)))
		if err != nil || len(got) != want {
			t.Errorf("P5: of %d bytes: %d, %v, want %d", len(s), len(got), err, want)
		}
	}
}

func TestTooMuchIsToldWithoutAPlace(t *testing.T) {
	out, err := Deflate(strings.Repeat("a", 20001))
	var fault *Fault
	if out != "" || !errors.Is(err, ErrMany) || errors.As(err, &fault) {
		t.Errorf("P5: of 20001 bytes: %d bytes, %v", len(out), err)
	}
}

func TestWordsAreTheCodesThatAreRead(t *testing.T) {
	for _, lengths := range [][]int{fixedLiterals(), fixedDistances(), {1, 1}, {2, 1, 3, 0, 3}, {3, 3, 3, 3, 3, 2, 4, 4}} {
		c, words := codeOf(lengths), wordsOf(lengths)
		for symbol, n := range lengths {
			if n == 0 {
				continue
			}
			var w bitWriter
			w.word(words[symbol])
			got, err := c.read(&bitReader{text: string(w.out)})
			if got != symbol || err != nil || w.at != n {
				t.Errorf("P5: the symbol %d is read as %d, %v, by %d bits", symbol, got, err, w.at)
			}
		}
	}
}

func TestFinderTakesTheLongestOfTheNearest(t *testing.T) {
	text := "abcdeX" + "abcdY" + "abcdZ" + "abcde"
	f := newFinder(text)
	f.pass(0, 16)
	if length, back := f.longest(16); length != 5 || back != 16 {
		t.Errorf("P5: %d bytes, %d back, want 5, 16", length, back)
	}
	f = newFinder(text)
	f.pass(0, 11)
	if length, back := f.longest(11); length != 4 || back != 5 {
		t.Errorf("P5: %d bytes, %d back, want 4, 5", length, back)
	}
}

func TestPlacesWithinARepetitionAreFound(t *testing.T) {
	// The last part came before, all of it, from the middle of the second one on.
	s := "abcdefghijklmnop" + "abcdefghijklmnop" + "QRSTUVWX" + "klmnopQRSTUVWX"
	if got := fixedBlock(s); len(got) != 29 {
		t.Errorf("P5: 24 bytes and two repetitions take %d bytes, want 29", len(got))
	}
}

func TestFinderAtTheEdges(t *testing.T) {
	f := newFinder("abcab")
	f.pass(0, 5)
	for at := 3; at < 5; at++ {
		if length, _ := f.longest(at); length != 0 {
			t.Errorf("P5: %d bytes from %d on", length, at)
		}
	}
	f = newFinder("abcabc")
	f.pass(0, 3)
	if length, back := f.longest(3); length != 3 || back != 3 {
		t.Errorf("P5: %d bytes, %d back, want 3, 3", length, back)
	}
	many := newFinder(strings.Repeat("a", 600))
	many.pass(0, 1)
	if length, back := many.longest(1); length != 258 || back != 1 {
		t.Errorf("P5: %d bytes, %d back, want 258, 1", length, back)
	}
	if length, _ := newFinder("").longest(0); length != 0 {
		t.Errorf("P5: %d bytes of nothing", length)
	}
}
