package stream

import (
	"errors"
	"strconv"
	"strings"
	"testing"
)

// packed makes bytes of rows of bits, told as text, the first one the lowest of the first byte.
func packed(rows ...string) string {
	row := strings.ReplaceAll(strings.Join(rows, ""), " ", "")
	b := make([]byte, (len(row)+7)/8)
	for i, c := range row {
		b[i/8] |= byte(c-'0') << (i % 8)
	}
	return string(b)
}

// number tells n bits as text, the lowest first.
func number(v, n int) string {
	var b strings.Builder
	for i := range n {
		b.WriteString(strconv.Itoa(v >> i & 1))
	}
	return b.String()
}

// codeTexts tells the codes as RFC 1951 reckons them, part 3.2.2: one more from code to code, a bit more from length to length.
func codeTexts(lengths map[int]int) map[int]string {
	texts := map[int]string{}
	next := 0
	for n := 1; n <= 15; n++ {
		for symbol := range 300 {
			if lengths[symbol] == n {
				padded := strings.Repeat("0", 16) + strconv.FormatInt(int64(next), 2)
				texts[symbol] = padded[len(padded)-n:]
				next++
			}
		}
		next *= 2
	}
	return texts
}

// The lengths of the lengths in most of the tests: eight symbols of three bits each.
var usual = map[int]int{0: 3, 1: 3, 2: 3, 3: 3, 15: 3, 16: 3, 17: 3, 18: 3}

// length is one of the row of lengths: a symbol, and what its bits more tell.
type length struct{ symbol, more int }

func rowText(by map[int]int, row ...length) string {
	texts := codeTexts(by)
	bits := map[int]int{16: 2, 17: 3, 18: 7}
	var b strings.Builder
	for _, l := range row {
		b.WriteString(texts[l.symbol] + number(l.more, bits[l.symbol]))
	}
	return b.String()
}

// zeros are so many symbols without a code.
func zeros(n int) []length {
	var row []length
	for ; n >= 138; n -= 138 {
		row = append(row, length{18, 127})
	}
	for ; n >= 3; n -= min(n, 10) {
		row = append(row, length{17, min(n, 10) - 3})
	}
	for range n {
		row = append(row, length{0, 0})
	}
	return row
}

func plain(lengths ...int) []length {
	var row []length
	for _, n := range lengths {
		row = append(row, length{n, 0})
	}
	return row
}

func join(parts ...[]length) []length {
	var row []length
	for _, p := range parts {
		row = append(row, p...)
	}
	return row
}

// head is what a last block of kind 2 begins with, all lengths of the lengths told.
func head(hlit, hdist int, by map[int]int) string {
	text := "1 01" + number(hlit, 5) + number(hdist, 5) + number(15, 4)
	for _, symbol := range []int{16, 17, 18, 0, 8, 7, 9, 6, 10, 5, 11, 4, 12, 3, 13, 2, 14, 1, 15} {
		text += number(by[symbol], 3)
	}
	return text
}

func own(hlit, hdist int, row []length, rest string) string {
	return packed(head(hlit, hdist, usual), rowText(usual, row...), rest)
}

func wantOut(t *testing.T, what, s string, limit int, want string) {
	t.Helper()
	for _, behind := range []string{"", "\x00", "\xff\xff"} {
		out, used, err := Inflate(s+behind, limit)
		if out != want || used != len(s) || err != nil {
			t.Errorf("P4: %s: %.60q, %d, %v, want %.60q, %d", what, out, used, err, want, len(s))
		}
	}
}

func wantFault(t *testing.T, what, s string, limit int, want error) *Fault {
	t.Helper()
	out, used, err := Inflate(s, limit)
	var fault *Fault
	if out != "" || used != 0 || !errors.Is(err, want) || !errors.As(err, &fault) {
		t.Errorf("P4: %s: %.60q, %d, %v, want %v", what, out, used, err, want)
		return &Fault{}
	}
	if fault.Bit < 0 || fault.Bit > 8*len(s) {
		t.Errorf("P4: %s: the place is %d of %d bits", what, fault.Bit, 8*len(s))
	}
	return fault
}

// a and 256 have one bit and two, 257 and 258 three; the code of the distances follows.
func aAndLengths(distances ...int) []length {
	return join(zeros(97), plain(1), zeros(158), plain(2, 3, 3), plain(distances...))
}

func TestOwnCodesReadSymbols(t *testing.T) {
	aAndEnd := join(zeros(97), plain(1), zeros(158), plain(1))
	wantOut(t, "two symbols", own(0, 0, join(aAndEnd, plain(0)), "0 0 0 1"), 3, "aaa")
	wantOut(t, "the end alone", own(0, 0, join(aAndEnd, plain(0)), "1"), 0, "")
	wantOut(t, "one distance", own(2, 0, aAndLengths(1), "0 110 0 111 0 10"), 8, "aaaaaaaa")
	wantOut(t, "two distances", own(2, 1, aAndLengths(1, 1), "0 0 110 1 10"), 5, "aaaaa")
	wantOut(t, "three distances", own(2, 2, aAndLengths(2, 1, 2), "0 0 0 110 11 10"), 6, "aaaaaa")
	wantOut(t, "the second distance alone", own(2, 1, aAndLengths(0, 1), "0 0 110 0 10"), 5, "aaaaa")
	wantOut(t, "no distances, and none used", own(2, 3, aAndLengths(0, 0, 0, 0), "0 0 10"), 2, "aa")
}

func TestOwnCodesOfFifteenBits(t *testing.T) {
	by := map[int]int{}
	for n := range 16 {
		by[n] = 4
	}
	var row []length
	for n := 1; n <= 15; n++ {
		row = append(row, length{n, 0}) // the symbols 0 to 14
	}
	row = join(row, plain(make([]int, 256-15)...), plain(15, 0))
	s := packed(head(0, 0, by), rowText(by, row...), "111111111111110 11110 0 10 111111111111111")
	wantOut(t, "15 bits", s, 4, "\x0e\x04\x00\x01")
}

func TestAllSymbolsAndDistancesThatCanBe(t *testing.T) {
	row := join(zeros(97), plain(1), zeros(158), plain(2), zeros(28), plain(2), plain(1), zeros(28), plain(1))
	wantOut(t, "HLIT 29, HDIST 29", own(29, 29, row, "0 11 0 10"), 259, strings.Repeat("a", 259))
	wantFault(t, "the distance 29", own(29, 29, row, "0 11 1 0000000000000 10"), 259, ErrFar)
}

func TestCountsAboveWhatCanBe(t *testing.T) {
	for _, c := range []struct{ hlit, hdist int }{{30, 0}, {31, 0}, {0, 30}, {0, 31}, {30, 30}} {
		row := join(zeros(97), plain(1), zeros(158), plain(1), zeros(c.hlit), zeros(c.hdist+1))
		wantFault(t, "HLIT or HDIST above 29", own(c.hlit, c.hdist, row, "0 1"), 9, ErrCounts)
	}
}

func TestLengthsOfTheLengthsThatAreNotRight(t *testing.T) {
	for _, by := range []map[int]int{
		{}, {0: 1}, {1: 1, 0: 2}, {0: 1, 1: 1, 2: 1}, {0: 7, 1: 1}, {0: 1, 1: 2, 2: 2, 15: 7},
	} {
		s := packed(head(0, 0, by), strings.Repeat("0", 400))
		wantFault(t, "lengths of the lengths", s, 9, ErrLengths)
	}
}

func TestFewLengthsOfTheLengths(t *testing.T) {
	// Four of them are of 16, 17, 18 and 0; with five 8 has a length.
	four := packed("1 01", number(0, 5), number(0, 5), number(0, 4), "000 000 100 100", "1 1111111", "1 1011011", strings.Repeat("0", 20))
	wantFault(t, "four: nothing but zeros", four, 9, ErrNoEnd)
	five := packed("1 01", number(0, 5), number(0, 5), number(1, 4), "000 000 000 100 100",
		strings.Repeat("1", 255), "0 1 1", "0000 0000 1111 1111")
	// 256 symbols of 8 bits are right: 0 to 254 and 256; 255 has none, the distance has 8.
	wantFault(t, "five: a distance of 8 bits", five, 9, ErrLengths)
	five = packed("1 01", number(0, 5), number(0, 5), number(1, 4), "000 000 000 100 100",
		strings.Repeat("1", 255), "0 1 0", "00000000 11111110 11111111")
	wantOut(t, "five", five, 9, "\x00\xfe")
}

func TestLengthsThatComeAgain(t *testing.T) {
	end := "111"
	eight := join(zeros(97), plain(3), []length{{16, 3}}, zeros(152), plain(3), plain(0))
	wantOut(t, "16, six times", own(0, 0, eight, "000 001 010 011 100 101 110 "+end), 7, "abcdefg")
	four := join(zeros(97), plain(2), zeros(156), plain(2, 2, 2), plain(0))
	wantOut(t, "no 16", own(0, 0, four, "00 01 10 11"), 3, "a\xfe\xff")
	three := join(zeros(249), plain(3), []length{{16, 0}}, plain(3, 3, 3, 3), plain(0))
	wantOut(t, "16, three times", own(0, 0, three, "000 001 011 110 "+end), 4, "\xf9\xfa\xfc\xff")
	zerosAhead := join(zeros(10), []length{{16, 3}, {16, 3}}, zeros(75), plain(1), zeros(158), plain(1), plain(0))
	wantOut(t, "16 behind zeros", own(0, 0, zerosAhead, "0 1"), 1, "a")
	over := join(zeros(253), plain(2), []length{{16, 3}}, plain(2))
	wantOut(t, "16 goes over to the distances", own(0, 3, over, "00 10 11"), 2, "\xfd\xff")
	behind := join(zeros(97), plain(1), zeros(158), plain(1), []length{{16, 0}})
	wantFault(t, "16 on the first distance", own(0, 2, behind, "0 1"), 9, ErrLengths)
	zerosOver := join(zeros(97), plain(1), zeros(157), plain(1, 1), []length{{18, 19}})
	wantFault(t, "three of one bit", own(0, 29, zerosOver, "0 1"), 9, ErrLengths)
	zerosOver = join(zeros(97), plain(1), zeros(158), plain(1), []length{{18, 127 - 79}})
	wantOut(t, "18 goes over to the distances", own(29, 29, zerosOver, "0 1"), 1, "a")
}

func TestSixteenWithoutOneAhead(t *testing.T) {
	wantFault(t, "16 first", own(0, 0, join([]length{{16, 0}}, zeros(255)), "0 1"), 9, ErrNoneAhead)
}

func TestMoreLengthsThanThereAreToBe(t *testing.T) {
	aAndEnd := join(zeros(97), plain(1), zeros(158), plain(1))
	for _, last := range []length{{16, 0}, {16, 3}, {17, 0}, {17, 7}, {18, 0}, {18, 127}} {
		least := map[int]int{16: 3, 17: 3, 18: 11}[last.symbol] + last.more
		for hdist := range min(least-1, 30) {
			wantFault(t, "one row too long", own(0, hdist, join(aAndEnd, []length{last}), "0 1"), 9, ErrRow)
		}
		if last.symbol != 16 && least <= 30 {
			wantOut(t, "just as many", own(0, least-1, join(aAndEnd, []length{last}), "0 1"), 9, "a")
		}
	}
}

func TestLengthsOfTheSymbolsThatAreNotRight(t *testing.T) {
	tell := func(what string, want error, literals ...[]length) {
		t.Helper()
		row := join(append(literals, plain(0))...)
		wantFault(t, what, own(0, 0, row, "0 1 1 1"), 9, want)
	}
	tell("the end alone", ErrLengths, zeros(256), plain(1))
	tell("not full", ErrLengths, zeros(97), plain(1), zeros(158), plain(2))
	tell("not full by little", ErrLengths, zeros(97), plain(1, 2), zeros(157), plain(15))
	tell("too full", ErrLengths, zeros(97), plain(1, 1), zeros(157), plain(1))
	tell("too full by little", ErrLengths, zeros(97), plain(1, 2, 2), zeros(156), plain(15))
	tell("no end", ErrNoEnd, zeros(97), plain(1, 1), zeros(158))
	tell("nothing at all", ErrNoEnd, zeros(257))
}

func TestLengthsOfTheDistancesThatAreNotRight(t *testing.T) {
	for _, distances := range [][]int{{2}, {15}, {0, 2}, {1, 2}, {2, 2}, {1, 1, 1}, {1, 1, 15}, {1, 2, 3}, {15, 0, 15}} {
		s := own(2, len(distances)-1, aAndLengths(distances...), "0 10")
		wantFault(t, "distances", s, 9, ErrLengths)
	}
}

func TestBitsThatAreNoSymbolsCode(t *testing.T) {
	wantFault(t, "one distance, the other bit", own(2, 0, aAndLengths(1), "0 110 1 10"), 9, ErrCode)
	wantFault(t, "no distances", own(2, 0, aAndLengths(0), "0 110 0 10"), 9, ErrCode)
	// Nothing is left behind the length, but there is no code that more bits could be.
	s := own(2, 0, aAndLengths(0), "0 110")
	wantFault(t, "no distances, no bits", s, 9, ErrCode)
}

const fixedA, fixedEnd = "10010001", "0000000"

func TestFixedSymbolsWithoutMeaning(t *testing.T) {
	wantFault(t, "286", packed("1 10", fixedA, "11000110 00000", fixedEnd), 900, ErrSymbol)
	wantFault(t, "287", packed("1 10", fixedA, "11000111 00000", fixedEnd), 900, ErrSymbol)
	wantFault(t, "distance 30", packed("1 10", fixedA, "0000001 11110 00000000000000", fixedEnd), 900, ErrSymbol)
	wantFault(t, "distance 31", packed("1 10", fixedA, "0000001 11111 00000000000000", fixedEnd), 900, ErrSymbol)
}

func TestFixedCodesOfAllBytes(t *testing.T) {
	for c := range 256 {
		code := 0x30 + c
		n := 8
		if c >= 144 {
			code, n = 0x190+c-144, 9
		}
		text := strconv.FormatInt(int64(code)|1<<n, 2)[1:]
		wantOut(t, "byte "+strconv.Itoa(c), packed("1 10", text, fixedEnd), 1, string([]byte{byte(c)}))
	}
}

// fixedRepeat is a last block of kind 1 of nothing but a repetition.
func fixedRepeat(symbol, more, moreBits, distance, far, farBits int) string {
	text := strconv.FormatInt(int64(symbol-256)|1<<7, 2)[1:]
	if symbol >= 280 {
		text = strconv.FormatInt(int64(0xc0+symbol-280), 2)
	}
	by := strconv.FormatInt(int64(distance)|1<<5, 2)[1:]
	return packed("1 10", text, number(more, moreBits), by, number(far, farBits), fixedEnd)
}

// storedPart is a block of kind 0, not the last one.
func storedPart(s string) string {
	n := len(s)
	return string([]byte{0, byte(n), byte(n >> 8), byte(^n), byte(^n >> 8)}) + s
}

func colourful(n int) string {
	b := make([]byte, n)
	for i := range b {
		b[i] = byte(i*i>>5 + i*7)
	}
	return string(b)
}

func TestEveryLength(t *testing.T) {
	before := "xyz"
	for i, s := range rfcLengths {
		for more := range 1 << s.more {
			want := before + strings.Repeat(before, 86)[:s.base+more]
			stream := storedPart(before) + fixedRepeat(257+i, more, s.more, 2, 0, 0)
			wantOut(t, "a length", stream, len(want), want)
		}
	}
}

func TestDistancesFromEndToEnd(t *testing.T) {
	before := colourful(18000)
	for i, s := range rfcDistances {
		for _, more := range []int{0, 1, 1<<s.more/2 + 3, 1<<s.more - 2, 1<<s.more - 1} {
			if more < 0 || more >= 1<<s.more {
				continue
			}
			stream := storedPart(before) + fixedRepeat(257, 0, 0, i, more, s.more)
			if back := s.base + more; back <= len(before) {
				from := len(before) - back
				wantOut(t, "a distance", stream, 20000, before+strings.Repeat(before[from:], 3)[:3])
			} else {
				wantFault(t, "a distance", stream, 20000, ErrFar)
			}
		}
	}
}

func TestDistanceFartherBackThanWhatCameOut(t *testing.T) {
	wantFault(t, "at the beginning", fixedRepeat(257, 0, 0, 0, 0, 0), 9, ErrFar)
	wantOut(t, "as far as the block ahead", storedPart("xyz")+fixedRepeat(257, 0, 0, 2, 0, 0), 9, "xyzxyz")
	wantFault(t, "one farther", storedPart("xyz")+fixedRepeat(257, 0, 0, 3, 0, 0), 9, ErrFar)
}

func TestTurnedBits(t *testing.T) {
	s := "\x01\x02\x00\xfd\xffhi"
	wantOut(t, "stored", s, 2, "hi")
	for bit := range 32 {
		b := []byte(s)
		b[1+bit/8] ^= 1 << (bit % 8)
		wantFault(t, "a bit that is not turned", string(b), 2, ErrTurned)
	}
	wantFault(t, "LEN twice", "\x01\x02\x00\x02\x00hi", 2, ErrTurned)
}

func TestWhatIsLeftOfTheByteIsPassedOver(t *testing.T) {
	for rest := range 32 {
		s := string([]byte{byte(rest<<3 | 1)}) + "\x01\x00\xfe\xffq"
		wantOut(t, "stored", s, 1, "q")
	}
}

func TestKindThree(t *testing.T) {
	for rest := range 32 {
		for last := range 2 {
			f := wantFault(t, "kind 3", string([]byte{byte(rest<<3 | 6 | last)})+"\x00\x00\x00", 9, ErrKind)
			if f.Bit != 3 {
				t.Errorf("P4: kind 3 is told at bit %d, want 3", f.Bit)
			}
		}
	}
	f := wantFault(t, "kind 3 in the second block", storedPart("xyz")+"\x07", 9, ErrKind)
	if f.Bit != 67 {
		t.Errorf("P4: kind 3 is told at bit %d, want 67", f.Bit)
	}
}

// again lets bytes come out once more, one by one.
func again(s string, length, back int) string {
	for range length {
		s += s[len(s)-back:][:1]
	}
	return s
}

// everyKind is a stream of all kinds of blocks, with repetitions that reach from one into the other. The bytes 255, which have nine bits each, shift the blocks behind them.
func everyKind(shift int) (stream, want string) {
	first := "0 10" + fixedA + fixedA + strings.Repeat("111111111", shift) + fixedEnd
	want = "aa" + strings.Repeat("\xff", shift)
	ownPart := "0" + head(2, 1, usual)[1:] + rowText(usual, aAndLengths(1, 1)...) + "0 110 1 10"
	want = again(want+"a", 3, 2)
	second := "0 10" + fixedA + "0001101 10 00100 1" + fixedEnd
	want = again(want+"a", 20, 6)
	stream = packed(first, ownPart, second, "0 00") + "\x02\x00\xfd\xffhi" + packed("1 10", fixedA, fixedEnd)
	return stream, want + "hia"
}

func TestCutShortAtEveryPlace(t *testing.T) {
	for shift := range 8 {
		s, want := everyKind(shift)
		wantOut(t, "all kinds of blocks", s, len(want), want)
		for n := range len(s) {
			f := wantFault(t, "cut short", s[:n], 20000, ErrShort)
			if f.Bit != 8*n {
				t.Errorf("P4: cut short to %d bytes is told at bit %d", n, f.Bit)
			}
		}
	}
}

func TestLimitAtEveryPlace(t *testing.T) {
	for shift := range 8 {
		s, want := everyKind(shift)
		for limit := range len(want) {
			wantFault(t, "limit", s, limit, ErrLimit)
		}
	}
}

func TestBoundsAreToldWithoutAPlace(t *testing.T) {
	for _, limit := range []int{-1, 20001} {
		_, _, err := Inflate("\x03\x00", limit)
		var fault *Fault
		if !errors.Is(err, ErrMany) || errors.As(err, &fault) {
			t.Errorf("P4: limit %d: %v", limit, err)
		}
	}
}

func TestFaultTellsPlaceAndRule(t *testing.T) {
	_, _, err := Inflate("\x07", 0)
	if want := "stream, bit 3: " + ErrKind.Error(); err == nil || err.Error() != want {
		t.Errorf("P4: %v, want %s", err, want)
	}
}
