package stream

import (
	"errors"
	"testing"
)

func TestNumbersComeLowestBitFirst(t *testing.T) {
	r := bitReader{text: "\xb5\x01"} // 1 0 1 0 1 1 0 1, 1 0 ..
	for _, step := range []struct{ bits, want int }{{1, 1}, {2, 2}, {3, 6}, {0, 0}, {3, 6}, {7, 0}} {
		if got, err := r.number(step.bits); got != step.want || err != nil {
			t.Fatalf("P4: %d bits are %d, %v, want %d", step.bits, got, err, step.want)
		}
	}
	if _, err := r.number(1); !errors.Is(err, ErrShort) {
		t.Errorf("P4: behind the last bit: %v", err)
	}
	if got, err := r.number(0); got != 0 || err != nil {
		t.Errorf("P4: no bits behind the last one: %d, %v", got, err)
	}
}

func TestUsedCountsAByteThatIsReadInPart(t *testing.T) {
	r := bitReader{text: "abc"}
	for n, want := range []int{0, 1, 1, 1, 1, 1, 1, 1, 1, 2} {
		r.at = n
		if got := r.used(); got != want {
			t.Errorf("P4: %d bits are of %d bytes, want %d", n, got, want)
		}
		r.passByte()
		if r.at != 8*want {
			t.Errorf("P4: what is left is passed over to bit %d, want %d", r.at, 8*want)
		}
	}
}

func TestWrittenNumbersAreReadAgain(t *testing.T) {
	var w bitWriter
	for n := range 17 {
		w.number(1<<n-1-n, n)
	}
	r := bitReader{text: string(w.out)}
	for n := range 17 {
		if got, err := r.number(n); got != (1<<n-1-n)&(1<<n-1) || err != nil {
			t.Errorf("P5: a number of %d bits is %d, %v", n, got, err)
		}
	}
}

func TestWordsAreWrittenHighestBitFirst(t *testing.T) {
	var w bitWriter
	w.word(word{6, 4})
	w.word(word{1, 3})
	if string(w.out) != "\x46" {
		t.Errorf("P5: 0110 001 is %x, want 46", w.out)
	}
}
