package bindery_test

import (
	"compress/flate"
	"io"
	"math/rand"
	"strings"
	"sync"
	"testing"

	"bindery/api"
	"bindery/bindery"
)

// checkDeflate holds a text's stream against all that is promised of every text.
func checkDeflate(t *testing.T, s string) string {
	t.Helper()
	out, e := bindery.Deflate(s)
	if e != api.OK || len(out) > len(s)+5 {
		t.Errorf("P5: Deflate of %d bytes (%.40q): %d bytes, %d", len(s), s, len(out), e)
	}
	rest := strings.NewReader(out)
	again, err := io.ReadAll(flate.NewReader(rest))
	if string(again) != s || err != nil || rest.Len() != 0 {
		t.Errorf("P5: of %.40q the library reads %.40q, %v, %d bytes left", s, again, err, rest.Len())
	}
	if len(out) <= 20000 {
		checkInflate(t, out, len(s), s, len(out), api.OK)
	}
	return out
}

func checkRun(t *testing.T, c byte, n int) {
	t.Helper()
	out := checkDeflate(t, strings.Repeat(string([]byte{c}), n))
	if len(out) > 20+n/100 {
		t.Errorf("P5: Deflate of %d times byte %d: %d bytes, at most %d", n, c, len(out), 20+n/100)
	}
}

func TestDeflateOfTheEmptyText(t *testing.T) {
	if out := checkDeflate(t, ""); len(out) == 0 {
		t.Errorf("P5: Deflate of nothing is no stream")
	}
}

func TestDeflateOfOneByteManyTimes(t *testing.T) {
	for n := range 1100 {
		checkRun(t, 'a', n)
		checkRun(t, 0xff, n)
	}
	for c := range 256 {
		for _, n := range []int{1, 3, 4, 258, 259, 260, 261, 516, 517, 4000} {
			checkRun(t, byte(c), n)
		}
	}
	for n := 1100; n <= 20000; n += 271 {
		checkRun(t, 0, n)
		checkRun(t, 143, n)
		checkRun(t, 144, n)
	}
	for n := 19990; n <= 20000; n++ {
		checkRun(t, 0x80, n)
	}
}

func TestDeflateOfTextsAsLongAsMayBe(t *testing.T) {
	r := rand.New(rand.NewSource(51))
	for _, n := range []int{19999, 20000} {
		checkDeflate(t, words(r, n))
	}
	for _, n := range []int{20001, 20002, 65536, 300000} {
		for _, c := range []string{"a", "\xff"} {
			if out, e := bindery.Deflate(strings.Repeat(c, n)); out != "" || e != api.ErrMany {
				t.Errorf("P5: Deflate of %d bytes: %d bytes, %d, want none, %d", n, len(out), e, api.ErrMany)
			}
		}
	}
}

func allBytes() string {
	b := make([]byte, 256)
	for i := range b {
		b[i] = byte(i)
	}
	return string(b)
}

func TestDeflateOfAllByteValues(t *testing.T) {
	all := allBytes()
	checkDeflate(t, all)
	checkDeflate(t, strings.Repeat(all, 70))
	for c := range 256 {
		checkDeflate(t, all[c:c+1])
		checkDeflate(t, all[c:]+all[:c])
		checkDeflate(t, strings.Repeat(all[:c], 3))
	}
}

func TestDeflateOfTextsThatCannotBeMadeShorter(t *testing.T) {
	r := rand.New(rand.NewSource(52))
	for n := range 300 {
		b := make([]byte, n)
		r.Read(b)
		checkDeflate(t, string(b))
		for i := range b {
			b[i] |= 0x90 // nine bits each by the fixed codes
		}
		checkDeflate(t, string(b))
	}
	for _, n := range []int{1000, 4093, 16384, 19994, 19995, 19996, 20000} {
		b := make([]byte, n)
		r.Read(b)
		checkDeflate(t, string(b))
	}
}

func TestDeflateOfRepetitionsOfAllLengths(t *testing.T) {
	for n := range 600 {
		piece := strings.Repeat("the quick brown fox, ", 30)[:n]
		checkDeflate(t, piece+"|"+piece+"!"+piece)
	}
}

func TestDeflateOfRepetitionsFarBack(t *testing.T) {
	r := rand.New(rand.NewSource(53))
	b := make([]byte, 19700)
	r.Read(b)
	for _, far := range []int{1, 2, 3, 4, 5, 192, 193, 1024, 1025, 8192, 8193, 16384, 16385, 19700} {
		s := string(b[:far])
		checkDeflate(t, s+s[:min(far, 290)])
	}
}

func TestDeflateOfChance(t *testing.T) {
	r := rand.New(rand.NewSource(54))
	for range 300 {
		checkDeflate(t, words(r, r.Intn(3000)))
	}
	for range 10 {
		checkDeflate(t, words(r, 15000+r.Intn(5001)))
	}
}

func TestDeflateHangsOnItsArgumentAlone(t *testing.T) {
	r := rand.New(rand.NewSource(55))
	text := words(r, 3000)
	want := checkDeflate(t, text)
	var group sync.WaitGroup
	for range 16 {
		other := words(r, 500)
		group.Go(func() {
			checkDeflate(t, other)
			if got := checkDeflate(t, text); got != want {
				t.Errorf("P2: Deflate answers otherwise behind another text")
			}
		})
	}
	group.Wait()
}

func FuzzDeflate(f *testing.F) {
	f.Add("")
	f.Add("aaaaaaaaaaaa")
	f.Add(allBytes())
	f.Fuzz(func(t *testing.T, s string) {
		if len(s) <= 20000 {
			checkDeflate(t, s)
		}
	})
}
