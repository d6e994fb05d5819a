package bindery_test

import (
	"compress/flate"
	"math/rand"
	"slices"
	"strings"
	"sync"
	"testing"

	"bindery/api"
	"bindery/bindery"
)

func checkUnpack(t *testing.T, s string, want []api.Entry, no api.Errno) {
	t.Helper()
	l, e := bindery.Unpack(s)
	if !slices.Equal(l, want) || e != no {
		t.Errorf("P9: Unpack(%.60x, of %d bytes) = %.300v, %d, want %.300v, %d", s, len(s), l, e, want, no)
	}
}

// checkSeries holds Unpack of a series, packed in one block as it is, against a tree.
func checkSeries(t *testing.T, series string, want []api.Entry) {
	t.Helper()
	if l, e := bindery.Unpack(storedBlock(1, series)); !slices.Equal(l, want) || e != api.OK {
		t.Errorf("P9: Unpack of %.200q = %.300v, %d, want %.300v", series, l, e, want)
	}
}

func checkNoSeries(t *testing.T, series string) {
	t.Helper()
	if l, e := bindery.Unpack(storedBlock(1, series)); len(l) != 0 || e != api.ErrArchive {
		t.Errorf("P9: Unpack of %.200q = %.300v, %d, want %d", series, l, e, api.ErrArchive)
	}
}

func TestUnpackOfKnownSeries(t *testing.T) {
	checkSeries(t, "bindery 1\nend 0\n", nil)
	checkSeries(t, "bindery 1\nd b\nf 1 b/a\nx\nend 2\n", []api.Entry{dir("b"), file("b/a", "x")})
	checkSeries(t, "bindery 1\nf 0 a\n\nend 1\n", []api.Entry{file("a", "")})
	checkSeries(t, "bindery 1\nf 1 a\n\n\nend 1\n", []api.Entry{file("a", "\n")})
	checkSeries(t, "bindery 1\nf 12 a\nend 1\nend 1\n\nend 1\n", []api.Entry{file("a", "end 1\nend 1\n")})
	checkSeries(t, "bindery 1\nd a\nd a/b\nf 2 a/b/c\n\x00\xff\nf 0 a-\n\nend 4\n", []api.Entry{dir("a"), dir("a/b"), file("a/b/c", "\x00\xff"), file("a-", "")})
	// Names that are like marks.
	checkSeries(t, "bindery 1\nd d\nf 3 d/f\nd d\nd end\nf 0 f\n\nend 4\n", []api.Entry{dir("d"), file("d/f", "d d"), dir("end"), file("f", "")})
	x := strings.Repeat("x", 8000)
	checkSeries(t, "bindery 1\nf 8000 a\n"+x+"\nend 1\n", []api.Entry{file("a", x)})
	checkSeries(t, modelSeries(rows(60)), inOrder(rows(60)))
}

func TestUnpackOfAWrongHeadOrEnd(t *testing.T) {
	for _, s := range []string{
		"", "\n", "bindery 1", "bindery 1\n", "bindery 1\n\n", "bindery 1\nend 0", "bindery 1\nend", "bindery 1\nend\n", "bindery 1\nend \n", "bindery 1\nend0\n",
		"bindery 1\nend 1\n", "bindery 1\nend 00\n", "bindery 1\nend +0\n", "bindery 1\nend -0\n", "bindery 1\nend 0x0\n", "bindery 1\nend 0 \n", "bindery 1\nend  0\n", "bindery 1\n end 0\n",
		"bindery 1\nend 0\n\n", "bindery 1\nend 0\n ", "bindery 1\nend 0\nend 0\n", "bindery 1\nend 0\nd a\n", "bindery 1\nend 0\nd a\nend 1\n", "bindery 1\nend 0\r\n",
		"bindery 2\nend 0\n", "bindery 01\nend 0\n", "bindery  1\nend 0\n", "bindery 1 \nend 0\n", "Bindery 1\nend 0\n", "bindery\nend 0\n", "binder 1\nend 0\n", "bindery 1\r\nend 0\n", "bindery 1end 0\n", "end 0\n", "\nend 0\n", " bindery 1\nend 0\n", "\nbindery 1\nend 0\n", "bindery 1\nbindery 1\nend 0\n",
		"bindery 1\nEnd 0\n", "bindery 1\nend 0\x00", "bindery 1\nd a\n", "bindery 1\nf 1 a\nx\n", "bindery 1\nf 1 a\nx", "\xef\xbb\xbfbindery 1\nend 0\n",
	} {
		checkNoSeries(t, s)
	}
}

func TestUnpackOfAWrongCount(t *testing.T) {
	for _, end := range []string{"0", "1", "3", "02", "2 ", " 2", "+2", "20", "-2", "", "two", "2.0", "18446744073709551618", "99999999999999999999"} {
		checkNoSeries(t, "bindery 1\nd b\nf 1 b/a\nx\nend "+end+"\n")
	}
	checkNoSeries(t, strings.Replace(modelSeries(rows(60)), "end 60", "end 59", 1))
	checkNoSeries(t, strings.Replace(modelSeries(rows(60)), "end 60", "end 61", 1))
}

func TestUnpackOfAWrongLength(t *testing.T) {
	for _, piece := range []string{
		"f 1 a\nxy\n", "f 2 a\nx\n", "f 3 a\nx\n", "f 0 a\nx\n", "f 1 a\n\n", "f 5 a\nx\n", "f 9 a\nx\n", "f 10 a\nx\n", "f 1000 a\nx\n",
		"f 01 a\nx\n", "f 00 a\n\n", "f 001 a\nx\n", "f +1 a\nx\n", "f -1 a\n\n", "f -0 a\n\n", "f 1. a\nx\n", "f 1e0 a\nx\n", "f 0x1 a\nx\n", "f 1_0 a\n0123456789\n", "f  1 a\nx\n", "f 1  a\nx\n", "f \u0661 a\nx\n", "f x a\nx\n", "f  a\nx\n", "f a\nx\n", "f 1\nx\n", "f 1 \nx\n", "f\nx\n", "f \nx\n",
		"f 4294967297 a\nx\n", "f 9223372036854775807 a\nx\n", "f 9223372036854775808 a\nx\n", "f -9223372036854775808 a\nx\n", "f 18446744073709551617 a\nx\n", "f 99999999999999999999 a\nx\n", "f " + strings.Repeat("9", 5000) + " a\nx\n", "f " + strings.Repeat("0", 5000) + "1 a\nx\n",
	} {
		checkNoSeries(t, "bindery 1\n"+piece+"end 1\n")
	}
}

func TestUnpackOfAMissingLineFeed(t *testing.T) {
	series := "bindery 1\nd b\nf 1 b/a\nx\nf 2 c\nyz\nend 3\n"
	checkSeries(t, series, []api.Entry{dir("b"), file("b/a", "x"), file("c", "yz")})
	for i := range len(series) {
		if series[i] != '\n' {
			continue
		}
		checkNoSeries(t, series[:i]+series[i+1:])
		checkNoSeries(t, series[:i]+"\r"+series[i+1:])
		checkNoSeries(t, series[:i]+"\r"+series[i:])
		checkNoSeries(t, series[:i]+" "+series[i:])
		checkNoSeries(t, series[:i]+"\n"+series[i:])
	}
	for i := range len(series) {
		checkNoSeries(t, series[:i])
	}
}

func TestUnpackOfAWrongOrder(t *testing.T) {
	for _, s := range []string{"d b\nd a\n", "f 0 b\n\nf 0 a\n\n", "f 0 a/b\n\nd a\n", "d a\nf 0 a-\n\nf 0 a/b\n\n", "d a\nd b\nf 0 a/a\n\n", "d a\nf 0 a/b\n\nf 0 a/a\n\n", "f 0 a\n\nf 0 A\n\n", "f 0 n10\n\nf 0 n1\n\n"} {
		n := strings.Count(s, "f ") + strings.Count(s, "d ")
		checkNoSeries(t, "bindery 1\n"+s+"end "+string(rune('0'+n))+"\n")
	}
}

// All is as in a series but the entries, which are no tree.
func TestUnpackOfEntriesThatAreNoTree(t *testing.T) {
	for _, l := range [][]api.Entry{
		{file("a/b", "")}, {dir("a/b")}, {file("a", ""), file("a/b", "")}, {dir("a"), file("a/b/c", "")}, {dir("a"), file("ab/c", "")},
		{dir("a"), dir("a")}, {file("a", ""), file("a", "")}, {file("a", ""), dir("a")}, {dir("a"), file("a", "")}, {dir("a"), file("a/b", ""), file("a/b", "")},
		{file("", "")}, {dir("")}, {file(".", "")}, {dir("..")}, {file("/a", "")}, {dir("a/")}, {dir("a"), dir("a//b")}, {dir("a"), file("a/../b", "")}, {file("a b", "")}, {dir("a ")}, {dir(" a")}, {file("a ", "")}, {file(" a", "")}, {file("é", "")}, {file("a\x00", "")}, {dir("a\r")},
		{file("seventeen_bytes17", "")}, {dir("a"), dir("a/b"), dir("a/b/c"), dir("a/b/c/d"), dir("a/b/c/d/e"), dir("a/b/c/d/e/f"), dir("a/b/c/d/e/f/g")},
		rows(61), {file("a", strings.Repeat("x", 8001))}, {file("a", strings.Repeat("x", 8000)), file("b", "x")},
	} {
		if no, _ := modelCheck(l); no == api.OK {
			t.Fatalf("%v is a tree", l)
		}
		checkNoSeries(t, modelSeries(l))
	}
}

func TestUnpackOfWrongMarks(t *testing.T) {
	for _, s := range []string{"D a\n", "F 1 a\nx\n", "d\ta\n", "da\n", "d  a\n", " d a\n", "\nd a\n", "dd a\n", "l a\n", "d 0 a\n", "d 0 a\n\n", "d a\n\n", "d a \n", "a\n", " a\n", "d\n", "d \n", "f 1\ta\nx\n", "f\t1 a\nx\n"} {
		checkNoSeries(t, "bindery 1\n"+s+"end 1\n")
	}
}

func TestUnpackOfEachKindOfBlocks(t *testing.T) {
	r := rand.New(rand.NewSource(90))
	var b strings.Builder
	for range 3000 {
		b.WriteByte("abcd"[r.Intn(4)])
	}
	l := []api.Entry{dir("b"), file("b/a", b.String()), file("c", "x")}
	series := modelSeries(l)
	half := len(series) / 2
	checkUnpack(t, storedBlock(1, series), l, api.OK)
	checkUnpack(t, storedBlock(0, series[:half])+storedBlock(0, "")+storedBlock(1, series[half:]), l, api.OK)
	fixed, e := bindery.Deflate(modelSeries(l[2:]))
	if e != api.OK || fixed[0]>>1&3 != 1 {
		t.Fatalf("a block of kind %d", fixed[0]>>1&3)
	}
	checkUnpack(t, fixed, l[2:], api.OK)
	own := libDeflate(t, series, flate.HuffmanOnly)
	if own[0]>>1&3 != 2 {
		t.Fatalf("a block of kind %d", own[0]>>1&3)
	}
	for _, level := range []int{0, 1, 5, 9, flate.HuffmanOnly} {
		s := libDeflate(t, series, level)
		checkUnpack(t, s, l, api.OK)
		checkUnpack(t, storedBlock(0, "")+s, l, api.OK)
	}
}

func TestUnpackOfBytesBehindTheStream(t *testing.T) {
	l := []api.Entry{dir("b"), file("b/a", "x")}
	good, _, _ := bindery.Pack(l)
	for _, s := range []string{good, storedBlock(1, modelSeries(l)), libDeflate(t, modelSeries(l), 9)} {
		checkUnpack(t, s, l, api.OK)
		for _, behind := range []string{"x", "\x00", "\x03\x00", s, strings.Repeat("\n", 1000)} {
			checkUnpack(t, s+behind, nil, api.ErrArchive)
		}
	}
	// Nothing but the stream counts: the bits that it leaves of its last byte may be any.
	s := storedBlock(0, modelSeries(l)) + "\x03"
	for rest := range 64 {
		checkUnpack(t, s+string([]byte{byte(rest << 2)}), l, api.OK)
	}
}

func TestUnpackOfWhatIsNoStream(t *testing.T) {
	good, _, _ := bindery.Pack([]api.Entry{dir("b"), file("b/a", "x")})
	for n := range len(good) {
		checkUnpack(t, good[:n], nil, api.ErrStream)
	}
	checkUnpack(t, "\x07", nil, api.ErrStream)
	checkUnpack(t, "\x00"+good, nil, api.ErrStream)
	checkUnpack(t, "bindery 1\nend 0\n", nil, api.ErrStream)
	checkUnpack(t, storedBlock(0, "bindery 1\nend 0\n"), nil, api.ErrStream)
}

func TestUnpackOfMoreThanMayBe(t *testing.T) {
	checkUnpack(t, strings.Repeat("x", 20001), nil, api.ErrMany)
	checkUnpack(t, storedBlock(1, "bindery 1\nend 0\n")+strings.Repeat("x", 20000), nil, api.ErrMany)
	checkUnpack(t, storedBlock(1, "bindery 1\nend 0\n")+strings.Repeat("x", 20000-21), nil, api.ErrArchive)
	x := strings.Repeat("x", 20000)
	checkUnpack(t, libDeflate(t, x, 9), nil, api.ErrArchive)
	checkUnpack(t, libDeflate(t, x+"x", 9), nil, api.ErrLimit)
	checkUnpack(t, libDeflate(t, x+"x", 9)+"behind", nil, api.ErrLimit)
	series := "bindery 1\nf 19976 a\n" + x[:19976] + "\nend 1\n"
	checkUnpack(t, libDeflate(t, series, 9), nil, api.ErrLimit)
	// So many entries, and no end of any.
	checkUnpack(t, libDeflate(t, "bindery 1\n"+strings.Repeat("d a\n", 4995), 9), nil, api.ErrArchive)
	checkUnpack(t, libDeflate(t, "bindery 1\n"+strings.Repeat("f 0 a\n\n", 2800)+"end 2800\n", 9), nil, api.ErrArchive)
}

func TestUnpackOfWhatPackWrote(t *testing.T) {
	r := rand.New(rand.NewSource(91))
	for k := range 200 {
		l := someTree(r, r.Intn(80))
		s, e, _ := bindery.Pack(l)
		if e != api.OK {
			t.Fatalf("P8: Pack(%v) = %d", l, e)
		}
		checkUnpack(t, s, inOrder(l), api.OK)
		checkUnpack(t, libDeflate(t, modelSeries(l), k%10), inOrder(l), api.OK)
	}
}

// saneUnpack: at all bytes what comes out, if anything does, has just the series that was packed.
func saneUnpack(t *testing.T, series string) bool {
	t.Helper()
	l, e := bindery.Unpack(storedBlock(1, series))
	no, _ := modelCheck(l)
	if e == api.OK && (no != api.OK || modelSeries(l) != series) || e != api.OK && (e != api.ErrArchive || len(l) != 0) {
		t.Errorf("P9: Unpack of %q = %v, %d", series, l, e)
	}
	return e == api.OK
}

func TestUnpackOfSeriesWithSomethingChanged(t *testing.T) {
	r := rand.New(rand.NewSource(92))
	taken := 0
	for range 400 {
		series := modelSeries(someTree(r, 1+r.Intn(8)))
		for range 40 {
			i, n := r.Intn(len(series)), r.Intn(3)
			with := []string{"", " ", "\n", "0", "1", "a", "/", "d a\n", "f 0 b\n\n", "\x00", "/b", "b"}[r.Intn(12)]
			if saneUnpack(t, series[:i]+with+series[min(len(series), i+n):]) {
				taken++
			}
		}
	}
	// Another letter in a name or in a Body makes another tree.
	if taken < 100 {
		t.Errorf("only %d of the changed series were one", taken)
	}
}

func TestUnpackedListsAreNewMemory(t *testing.T) {
	want := []api.Entry{dir("b"), file("b/a", "x"), file("c", "y")}
	s, _, _ := bindery.Pack(want)
	first, _ := bindery.Unpack(s)
	second, _ := bindery.Unpack(s)
	for _, l := range [][]api.Entry{first, second} {
		l = l[:cap(l)]
		for i := range l {
			l[i] = file("over", "over")
		}
		checkUnpack(t, s, want, api.OK)
	}
	third, _ := bindery.Unpack(s)
	first = append(first[:0], dir("again"), dir("again"), dir("again"))
	if !slices.Equal(third, want) || slices.Contains(second, first[0]) {
		t.Errorf("P2: %v is changed by writing into another list", third)
	}
	checkPack(t, want, modelSeries(want))
	none, _ := bindery.Unpack(storedBlock(1, "bindery 1\nend 0\n"))
	_ = append(none, dir("over"))
	checkSeries(t, "bindery 1\nend 0\n", nil)
}

func TestUnpackAtTheSameTime(t *testing.T) {
	r := rand.New(rand.NewSource(93))
	var group sync.WaitGroup
	for range 16 {
		l := someTree(r, 30)
		series := modelSeries(l)
		group.Go(func() {
			for range 5 {
				checkSeries(t, series, inOrder(l))
				checkNoSeries(t, series+"\n")
			}
		})
	}
	group.Wait()
}

func FuzzUnpack(f *testing.F) {
	f.Add("bindery 1\nend 0\n")
	f.Add("bindery 1\nd b\nf 1 b/a\nx\nend 2\n")
	f.Add("bindery 1\nf 10 a\n0123456789\nend 1\n")
	f.Fuzz(func(t *testing.T, s string) {
		if len(s) <= 19995 {
			saneUnpack(t, s)
		}
		bindery.Unpack(s)
	})
}
