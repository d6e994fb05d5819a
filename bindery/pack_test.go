package bindery_test

import (
	"compress/flate"
	"fmt"
	"io"
	"math/rand"
	"slices"
	"strings"
	"sync"
	"testing"

	"bindery/api"
	"bindery/bindery"
)

// checkPack holds an archive against a series, and tells it. The library reads it, so that this does not lean on Inflate.
func checkPack(t *testing.T, l []api.Entry, series string) string {
	t.Helper()
	var archive string
	guarded(t, l, func(l []api.Entry) {
		s, e, at := bindery.Pack(l)
		rest := strings.NewReader(s)
		out, err := io.ReadAll(flate.NewReader(rest))
		if string(out) != series || err != nil || rest.Len() != 0 || e != api.OK || at != 0 {
			t.Errorf("P8: Pack(%.200v): %.200q, %v, %d bytes left, %d, %d, want %.200q", l, out, err, rest.Len(), e, at, series)
		}
		archive = s
	})
	return archive
}

func TestPackOfTheExamples(t *testing.T) {
	checkPack(t, nil, "bindery 1\nend 0\n")
	checkPack(t, []api.Entry{}, "bindery 1\nend 0\n")
	checkPack(t, []api.Entry{dir("b"), file("b/a", "x")}, "bindery 1\nd b\nf 1 b/a\nx\nend 2\n")
	checkPack(t, []api.Entry{file("b/a", "x"), dir("b")}, "bindery 1\nd b\nf 1 b/a\nx\nend 2\n")
}

func TestPackOfKnownTrees(t *testing.T) {
	checkPack(t, []api.Entry{file("a", "")}, "bindery 1\nf 0 a\n\nend 1\n")
	checkPack(t, []api.Entry{dir("a")}, "bindery 1\nd a\nend 1\n")
	checkPack(t, []api.Entry{file("a", "\n")}, "bindery 1\nf 1 a\n\n\nend 1\n")
	checkPack(t, []api.Entry{file("a", "end 1\n")}, "bindery 1\nf 6 a\nend 1\n\nend 1\n")
	checkPack(t, []api.Entry{file("a", "0123456789")}, "bindery 1\nf 10 a\n0123456789\nend 1\n")
	checkPack(t, []api.Entry{file("a", "\x00\xff")}, "bindery 1\nf 2 a\n\x00\xff\nend 1\n")
	x := strings.Repeat("x", 8000)
	checkPack(t, []api.Entry{file("a", x)}, "bindery 1\nf 8000 a\n"+x+"\nend 1\n")
	checkPack(t, rows(60), modelSeries(rows(60)))
}

func TestPackIsTheSameInEveryOrder(t *testing.T) {
	l := []api.Entry{file("z", ""), dir("b"), file("b.c", "0123456789"), file("b/a", "\n"), dir("b-"), dir("b/A")}
	series := "bindery 1\nd b\nd b/A\nf 1 b/a\n\n\nd b-\nf 10 b.c\n0123456789\nf 0 z\n\nend 6\n"
	first := checkPack(t, l, series)
	allOrders(l, func(l []api.Entry) {
		if s := checkPack(t, l, series); s != first {
			t.Errorf("P8: Pack(%v) = %x, in another order %x", l, s, first)
		}
	})
}

// A byte below the slash in a name comes behind all that is within a directory that the name begins with.
func TestPackHasPathsNameByName(t *testing.T) {
	l := []api.Entry{dir("a"), dir("a/b"), file("a/b/c", ""), file("a/b-", ""), file("a/b.c", ""), dir("a-b"), file("a-b/c", ""), file("a.b", ""), file("ab", "")}
	series := "bindery 1\nd a\nd a/b\nf 0 a/b/c\n\nf 0 a/b-\n\nf 0 a/b.c\n\nd a-b\nf 0 a-b/c\n\nf 0 a.b\n\nf 0 ab\n\nend 9\n"
	checkPack(t, l, series)
	slices.Reverse(l)
	checkPack(t, l, series)
}

func TestPackOfChance(t *testing.T) {
	r := rand.New(rand.NewSource(80))
	for range 200 {
		l := someTree(r, r.Intn(80))
		s := checkPack(t, l, modelSeries(l))
		if again := checkPack(t, shuffled(r, l), modelSeries(l)); again != s {
			t.Errorf("P8: Pack(%v) hangs on the order", l)
		}
	}
}

// A tree as great as may be, of bytes that cannot be made fewer, is still packed, and unpacked again.
func TestPackOfTreesAsGreatAsMayBe(t *testing.T) {
	r := rand.New(rand.NewSource(81))
	deep := "0123456789abcdef/0123456789abcdef/0123456789abcde"
	l := []api.Entry{dir(deep[:16]), dir(deep[:33]), dir(deep)}
	for k := range 57 {
		b := make([]byte, 140)
		r.Read(b)
		l = append(l, file(fmt.Sprintf("%s/%014d", deep, k), string(b)))
	}
	l[59].Body += strings.Repeat("x", 20)
	if no, _ := modelCheck(l); no != api.OK || len(l) != 60 || len(l[59].Path) != 64 {
		t.Fatalf("the test's tree is none: %d", no)
	}
	s := checkPack(t, l, modelSeries(l))
	checkUnpack(t, s, inOrder(l), api.OK)
}

func TestPackAtTheSameTime(t *testing.T) {
	r := rand.New(rand.NewSource(82))
	l := someTree(r, 40)
	series := modelSeries(l)
	first := checkPack(t, l, series)
	var group sync.WaitGroup
	for range 16 {
		other := someTree(r, 20)
		group.Go(func() {
			checkPack(t, other, modelSeries(other))
			if s, _, _ := bindery.Pack(l); s != first {
				t.Errorf("P2: Pack answers otherwise behind another tree")
			}
		})
	}
	group.Wait()
}
