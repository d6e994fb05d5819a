package bindery_test

import (
	"bytes"
	"compress/flate"
	"io"
	"math"
	"math/rand"
	"strings"
	"sync"
	"testing"

	"bindery/api"
	"bindery/bindery"
)

func checkInflate(t *testing.T, s string, limit int, want string, used int, no api.Errno) {
	t.Helper()
	out, n, e := bindery.Inflate(s, limit)
	if out != want || n != used || e != no {
		t.Errorf("P4: Inflate(%.40x, %d) = %.40q, %d, %d, want %.40q, %d, %d", s, limit, out, n, e, want, used, no)
	}
}

// storedBlock is one of kind 0.
func storedBlock(last byte, s string) string {
	n := len(s)
	return string([]byte{last, byte(n), byte(n >> 8), byte(^n), byte(^n >> 8)}) + s
}

func libDeflate(t *testing.T, s string, level int) string {
	t.Helper()
	var b bytes.Buffer
	w, err := flate.NewWriter(&b, level)
	if err != nil {
		t.Fatal(err)
	}
	for i := 0; i < len(s); i += 700 {
		w.Write([]byte(s[i:min(len(s), i+700)]))
		if i%1400 == 0 {
			w.Flush() // so that there are several blocks
		}
	}
	w.Close()
	return b.String()
}

// words has texts of all sorts: repetitions near and far, few kinds of bytes and many.
func words(r *rand.Rand, n int) string {
	var b []byte
	kinds := []int{1, 2, 5, 60, 256}[r.Intn(5)]
	for len(b) < n {
		if len(b) > 0 && r.Intn(3) > 0 {
			i := r.Intn(len(b))
			b = append(b, b[i:min(len(b), i+r.Intn(300))]...)
			continue
		}
		for range 1 + r.Intn(40) {
			b = append(b, byte(r.Intn(kinds)))
		}
	}
	return string(b[:n])
}

func TestInflateOfTheExamples(t *testing.T) {
	checkInflate(t, "\x01\x02\x00\xfd\xffhi", 20000, "hi", 7, api.OK)
	checkInflate(t, "\x4b\x4c\x04\x00", 20000, "aa", 4, api.OK)
	checkInflate(t, "\x03\x00", 20000, "", 2, api.OK)
	checkInflate(t, "\x07", 20000, "", 0, api.ErrStream)
}

func TestInflateOfOwnCodes(t *testing.T) {
	r := rand.New(rand.NewSource(40))
	var b strings.Builder
	for range 650 {
		b.WriteByte("abcd"[r.Intn(4)])
	}
	text := b.String()
	for _, level := range []int{flate.HuffmanOnly, flate.BestCompression} {
		s := libDeflate(t, text, level)
		if kind := s[0] >> 1 & 3; kind != 2 {
			t.Fatalf("the library's block is of kind %d", kind)
		}
		checkInflate(t, s, len(text), text, len(s), api.OK)
	}
}

func TestInflateOfWhatTheLibraryWrites(t *testing.T) {
	r := rand.New(rand.NewSource(41))
	for k := range 200 {
		text := words(r, r.Intn(6000))
		s := libDeflate(t, text, []int{0, 1, 5, 9, flate.HuffmanOnly}[k%5])
		checkInflate(t, s, len(text), text, len(s), api.OK)
		checkInflate(t, s, 20000, text, len(s), api.OK)
		if len(text) > 0 {
			checkInflate(t, s, len(text)-1, "", 0, api.ErrLimit)
			checkInflate(t, s, 0, "", 0, api.ErrLimit)
		}
	}
}

func TestInflateOfStreamsCutShort(t *testing.T) {
	r := rand.New(rand.NewSource(42))
	for k := range 20 {
		text := words(r, 50+r.Intn(1500))
		s := libDeflate(t, text, []int{0, 1, 5, 9, flate.HuffmanOnly}[k%5])
		for n := range len(s) {
			checkInflate(t, s[:n], 20000, "", 0, api.ErrStream)
		}
	}
}

func TestInflateWithBytesBehindTheEnd(t *testing.T) {
	for _, behind := range []string{"\x00", "\xff", "\x07", "\x03\x00", strings.Repeat("z", 1000)} {
		checkInflate(t, "\x01\x02\x00\xfd\xffhi"+behind, 2, "hi", 7, api.OK)
		checkInflate(t, "\x4b\x4c\x04\x00"+behind, 2, "aa", 4, api.OK)
		checkInflate(t, "\x03\x00"+behind, 0, "", 2, api.OK)
	}
	// The bits behind the end, in its last byte, may be any.
	for rest := range 64 {
		checkInflate(t, "\x03"+string([]byte{byte(rest << 2)})+"q", 0, "", 2, api.OK)
	}
}

func TestInflateAtTheEdgesOfTheLimit(t *testing.T) {
	for _, s := range []string{"\x03\x00", storedBlock(1, "")} {
		checkInflate(t, s, 0, "", len(s), api.OK)
	}
	one := storedBlock(1, "a")
	checkInflate(t, one, 0, "", 0, api.ErrLimit)
	checkInflate(t, one, 1, "a", len(one), api.OK)
	for _, limit := range []int{-1, -2, 20001, 20002, 1 << 32, math.MaxInt, math.MinInt} {
		checkInflate(t, one, limit, "", 0, api.ErrMany)
		checkInflate(t, "\x07", limit, "", 0, api.ErrMany)
	}
	checkInflate(t, one, 20000, "a", len(one), api.OK)
	full := strings.Repeat("a", 20000)
	s := libDeflate(t, full, 9)
	checkInflate(t, s, 20000, full, len(s), api.OK)
	checkInflate(t, s, 19999, "", 0, api.ErrLimit)
	checkInflate(t, libDeflate(t, full+"a", 9), 20000, "", 0, api.ErrLimit)
	checkInflate(t, libDeflate(t, strings.Repeat(full, 50), 9), 20000, "", 0, api.ErrLimit)
}

func TestInflateOfTextsAsLongAsMayBe(t *testing.T) {
	body := strings.Repeat("0123456789", 1999) + "01234"
	s := storedBlock(1, body)
	if len(s) != 20000 {
		t.Fatalf("%d bytes", len(s))
	}
	checkInflate(t, s, len(body), body, 20000, api.OK)
	checkInflate(t, s, len(body)-1, "", 0, api.ErrLimit)
	checkInflate(t, s+"x", len(body), "", 0, api.ErrMany)
	checkInflate(t, "\x03\x00"+strings.Repeat("x", 19998), 0, "", 2, api.OK)
	checkInflate(t, "\x03\x00"+strings.Repeat("x", 19999), 0, "", 0, api.ErrMany)
	checkInflate(t, strings.Repeat("\x07", 20000), 0, "", 0, api.ErrStream)
	checkInflate(t, strings.Repeat("\x07", 20001), 0, "", 0, api.ErrMany)
	// 4000 blocks of nothing, of which none is the last one.
	checkInflate(t, strings.Repeat(storedBlock(0, ""), 4000), 0, "", 0, api.ErrStream)
	checkInflate(t, strings.Repeat(storedBlock(0, ""), 3999)+storedBlock(1, ""), 0, "", 20000, api.OK)
}

func TestInflateTellsWhatComesFirst(t *testing.T) {
	// The bytes of a 0 block that are there come out ahead of those that are not.
	short := storedBlock(1, "hello")[:7]
	checkInflate(t, short, 0, "", 0, api.ErrLimit)
	checkInflate(t, short, 1, "", 0, api.ErrLimit)
	checkInflate(t, short, 2, "", 0, api.ErrStream)
	checkInflate(t, short, 3, "", 0, api.ErrStream)
	// Turned bits that are wrong are told ahead of all bytes.
	checkInflate(t, "\x01\x02\x00\xfd\xfehi", 0, "", 0, api.ErrStream)
	// A wrong block behind one that is too long, and behind one that is not.
	checkInflate(t, storedBlock(0, "hi")+"\x07", 1, "", 0, api.ErrLimit)
	checkInflate(t, storedBlock(0, "hi")+"\x07", 2, "", 0, api.ErrStream)
	// A fixed block of nothing but a length of 3: by a distance of 1, of 3, of 30; without one.
	for _, c := range []struct {
		block string
		at2   api.Errno
	}{{"\x03\x02\x00", api.ErrLimit}, {"\x03\x22", api.ErrStream}, {"\x03\x3e", api.ErrStream}, {"\x03", api.ErrStream}} {
		checkInflate(t, storedBlock(0, "hi")+c.block, 2, "", 0, c.at2)
		checkInflate(t, storedBlock(0, "hi")+c.block, 1, "", 0, api.ErrLimit)
	}
	checkInflate(t, storedBlock(0, "hi")+"\x03\x02\x00", 5, "hiiii", 10, api.OK)
	checkInflate(t, storedBlock(0, "hi")+"\x03\x02", 4, "", 0, api.ErrLimit)
	checkInflate(t, storedBlock(0, "hi")+"\x03\x02", 5, "", 0, api.ErrStream)
}

// At all texts the answer is one of the three, whole; where something comes out, the library reads the same.
func sane(t *testing.T, s string, limit int) {
	t.Helper()
	out, used, e := bindery.Inflate(s, limit)
	switch e {
	case api.OK:
		want, err := io.ReadAll(flate.NewReader(strings.NewReader(s[:used])))
		if err != nil || out != string(want) || len(out) > limit {
			t.Errorf("P4: Inflate(%x, %d) = %x, %d, but %v, %x", s, limit, out, used, err, want)
		}
		if _, _, e := bindery.Inflate(s[:used-1], limit); e != api.ErrStream {
			t.Errorf("P4: Inflate(%x, %d) needs less than %d bytes", s, limit, used)
		}
	case api.ErrStream, api.ErrLimit:
		if out != "" || used != 0 {
			t.Errorf("P1: Inflate(%x, %d) = %x, %d, %d", s, limit, out, used, e)
		}
	default:
		t.Errorf("P4: Inflate(%x, %d) = %d", s, limit, e)
	}
}

func TestInflateOfChance(t *testing.T) {
	r := rand.New(rand.NewSource(43))
	for range 20000 {
		b := make([]byte, r.Intn(40))
		r.Read(b)
		sane(t, string(b), r.Intn(60))
	}
}

func TestInflateOfStreamsWithBitsTurned(t *testing.T) {
	r := rand.New(rand.NewSource(44))
	for k := range 3000 {
		text := words(r, r.Intn(300))
		b := []byte(libDeflate(t, text, []int{0, 1, 5, 9, flate.HuffmanOnly}[k%5]))
		for range 1 + r.Intn(3) {
			b[r.Intn(min(len(b), 30))] ^= 1 << r.Intn(8)
		}
		sane(t, string(b), 1000)
	}
}

func TestInflateHangsOnItsArgumentsAlone(t *testing.T) {
	r := rand.New(rand.NewSource(45))
	var group sync.WaitGroup
	for range 16 {
		text := words(r, 2000)
		s := libDeflate(t, text, 6)
		group.Go(func() {
			for range 5 {
				checkInflate(t, s, 2000, text, len(s), api.OK)
				checkInflate(t, s, 1999, "", 0, api.ErrLimit)
				checkInflate(t, s[1:len(s)/2]+"\x07", -1, "", 0, api.ErrMany)
			}
		})
	}
	group.Wait()
}

func FuzzInflate(f *testing.F) {
	f.Add("\x01\x02\x00\xfd\xffhi", 2)
	f.Add("\x4b\x4c\x04\x00", 2)
	f.Add("\x03\x00", 0)
	f.Add("\x07", 0)
	f.Fuzz(func(t *testing.T, s string, limit int) {
		if len(s) > 20000 || limit < 0 || limit > 20000 {
			checkInflate(t, s, limit, "", 0, api.ErrMany)
			return
		}
		sane(t, s, limit)
	})
}
