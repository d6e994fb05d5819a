package stream

import "testing"

// The tables of RFC 1951, part 3.2.5, as they stand there.
var (
	rfcLengths = []span{
		{3, 0}, {4, 0}, {5, 0}, {6, 0}, {7, 0}, {8, 0}, {9, 0}, {10, 0},
		{11, 1}, {13, 1}, {15, 1}, {17, 1}, {19, 2}, {23, 2}, {27, 2}, {31, 2},
		{35, 3}, {43, 3}, {51, 3}, {59, 3}, {67, 4}, {83, 4}, {99, 4}, {115, 4},
		{131, 5}, {163, 5}, {195, 5}, {227, 5}, {258, 0},
	}
	rfcDistances = []span{
		{1, 0}, {2, 0}, {3, 0}, {4, 0}, {5, 1}, {7, 1}, {9, 2}, {13, 2}, {17, 3}, {25, 3},
		{33, 4}, {49, 4}, {65, 5}, {97, 5}, {129, 6}, {193, 6}, {257, 7}, {385, 7}, {513, 8}, {769, 8},
		{1025, 9}, {1537, 9}, {2049, 10}, {3073, 10}, {4097, 11}, {6145, 11}, {8193, 12}, {12289, 12}, {16385, 13}, {24577, 13},
	}
)

func TestSpansAreThoseOfTheRFC(t *testing.T) {
	for i, want := range rfcLengths {
		if got := lengthSpan(257 + i); got != want {
			t.Errorf("P4: the symbol %d is %v, want %v", 257+i, got, want)
		}
	}
	for i, want := range rfcDistances {
		if got := distanceSpan(i); got != want {
			t.Errorf("P4: the distance %d is %v, want %v", i, got, want)
		}
	}
}

func TestEachLengthAndDistanceHasItsSymbol(t *testing.T) {
	for length := 3; length <= 258; length++ {
		s := lengthSpan(lengthSymbol(length))
		if length < s.base || length >= s.base+1<<s.more {
			t.Errorf("P5: the length %d is not in %v", length, s)
		}
	}
	if got := lengthSymbol(258); got != 285 {
		t.Errorf("P5: 258 is the symbol %d, want 285", got)
	}
	for back := 1; back <= 32768; back++ {
		s := distanceSpan(distanceSymbol(back))
		if back < s.base || back >= s.base+1<<s.more {
			t.Errorf("P5: the distance %d is not in %v", back, s)
		}
	}
}
