package bindery_test

import (
	"encoding/hex"
	"fmt"
	"math/rand"
	"runtime"
	"slices"
	"strings"
	"sync"
	"testing"
	"time"

	"bindery/api"
	"bindery/bindery"
)

func checkDigest(t *testing.T, l []api.Entry, raw string) {
	t.Helper()
	guarded(t, l, func(l []api.Entry) {
		if s, e, at := bindery.Digest(l); s != hex.EncodeToString([]byte(raw)) || e != api.OK || at != 0 {
			t.Errorf("P7: Digest(%.300v) = %q, %d, %d, want %x", l, s, e, at, raw)
		}
	})
}

func TestDigestOfNoEntries(t *testing.T) {
	want := bindery.Sum("d")
	for _, l := range [][]api.Entry{nil, {}, make([]api.Entry, 0, 9)} {
		if s, e, at := bindery.Digest(l); s != want || e != api.OK || at != 0 {
			t.Errorf("P7: Digest of nothing = %q, %d, %d, want %q", s, e, at, want)
		}
	}
}

// The digests stand here as the document's words have them, entry by entry.
func TestDigestOfKnownTrees(t *testing.T) {
	empty := rawSum("d")
	checkDigest(t, []api.Entry{file("a", "x")}, rawSum("dfa/"+rawSum("fx")))
	checkDigest(t, []api.Entry{file("a", "")}, rawSum("dfa/"+rawSum("f")))
	checkDigest(t, []api.Entry{dir("a")}, rawSum("dda/"+empty))
	checkDigest(t, []api.Entry{dir("a"), dir("b")}, rawSum("dda/"+empty+"db/"+empty))
	checkDigest(t, []api.Entry{dir("a"), dir("a/b")}, rawSum("dda/"+rawSum("ddb/"+empty)))
	checkDigest(t, []api.Entry{dir("a"), dir("a/b"), dir("a/b/c")}, rawSum("dda/"+rawSum("ddb/"+rawSum("ddc/"+empty))))
	checkDigest(t, []api.Entry{dir("b"), file("b/a", "x")}, rawSum("ddb/"+rawSum("dfa/"+rawSum("fx"))))
	checkDigest(t, []api.Entry{dir("b"), file("b/a", "x"), file("a", "x")}, rawSum("dfa/"+rawSum("fx")+"db/"+rawSum("dfa/"+rawSum("fx"))))
}

// Once the 64 letters themselves, so that this leans on no library.
func TestDigestIsTold(t *testing.T) {
	got, _, _ := bindery.Digest([]api.Entry{file("b/a", "x"), dir("b")})
	if want := "212387dc8bb8e7a1666d0893e010ecda774a1e68ad0e9213200a8e1bce53faaf"; got != want {
		t.Errorf("P7: Digest = %q, want %q", got, want)
	}
}

func TestDigestInEveryOrder(t *testing.T) {
	inner := rawSum("dfZ/" + rawSum("f") + "fa/" + rawSum("fx"))
	want := rawSum("dfa/" + rawSum("f") + "db/" + inner + "db-/" + rawSum("d") + "fb.c/" + rawSum("fz"))
	l := []api.Entry{file("b/a", "x"), file("a", ""), dir("b"), file("b.c", "z"), file("b/Z", ""), dir("b-")}
	allOrders(l, func(l []api.Entry) { checkDigest(t, l, want) })
}

// The bytes of names rise: `-`, `.`, digits, great letters, `_`, small letters.
func TestDigestHasNamesByteByByte(t *testing.T) {
	names := []string{"-", "--", "-.", "...", "..a", ".a", "0", "00", "1", "10", "2", "9", "A", "Z", "Za", "_", "a", "a-", "a.", "a0", "aA", "a_", "aa", "b", "z"}
	text := "d"
	var l []api.Entry
	for _, name := range names {
		text += "f" + name + "/" + rawSum("f"+name)
		l = append(l, file(name, name))
	}
	checkDigest(t, l, rawSum(text))
	slices.Reverse(l)
	checkDigest(t, l, rawSum(text))
}

// No two of these trees are one, though they have much in common.
func TestDigestTellsTreesApart(t *testing.T) {
	seen := map[string]int{}
	for k, l := range [][]api.Entry{
		{}, {file("a", "")}, {dir("a")}, {file("b", "")}, {file("a", "a")}, {file("a", "d")}, {file("a", "f")}, {file("A", "")},
		{file("a", ""), file("b", "")}, {dir("a"), file("a/b", "")}, {dir("a"), dir("a/b")}, {dir("a"), dir("b")},
		{file("a", ""), dir("b")}, {dir("a"), file("b", "")}, {dir("a"), dir("b"), file("a/c", "")}, {dir("a"), dir("b"), file("b/c", "")},
		{file("a", "x"), file("b", "y")}, {file("a", "y"), file("b", "x")}, {file("ab", "")}, {file("a", "\x00")}, {file("a", "\n")},
	} {
		got, e, at := bindery.Digest(l)
		if before, ok := seen[got]; ok || e != api.OK || at != 0 {
			t.Errorf("P7: Digest of tree %d is that of %d: %q, %d, %d", k, before, got, e, at)
		}
		seen[got] = k
	}
}

func TestDigestOfTreesAsGreatAsMayBe(t *testing.T) {
	l := rows(60)
	for k := range l {
		l[k].Body = strings.Repeat(fmt.Sprint(k%10), 133)
	}
	checkDigest(t, l, modelDigest(l))
	one := []api.Entry{file("a", strings.Repeat("\xff", 8000))}
	checkDigest(t, one, rawSum("dfa/"+rawSum("f"+strings.Repeat("\xff", 8000))))
	deep := []api.Entry{dir("a"), dir("a/b"), dir("a/b/c"), dir("a/b/c/d"), dir("a/b/c/d/e"), dir("a/b/c/d/e/f")}
	want := rawSum("d")
	for _, name := range []string{"f", "e", "d", "c", "b", "a"} {
		want = rawSum("dd" + name + "/" + want)
	}
	checkDigest(t, deep, want)
}

func TestDigestOfChance(t *testing.T) {
	r := rand.New(rand.NewSource(70))
	for range 200 {
		l := someTree(r, r.Intn(80))
		checkDigest(t, l, modelDigest(l))
		checkDigest(t, shuffled(r, l), modelDigest(l))
	}
}

func TestDigestAtTheSameTime(t *testing.T) {
	r := rand.New(rand.NewSource(71))
	l := someTree(r, 80)
	want := modelDigest(l)
	var group sync.WaitGroup
	for range 16 {
		other := someTree(r, 30)
		group.Go(func() {
			for range 5 {
				checkDigest(t, other, modelDigest(other))
				// All of them read this one.
				if s, _, _ := bindery.Digest(l); s != hex.EncodeToString([]byte(want)) {
					t.Errorf("P2: Digest = %q, want %x", s, want)
				}
			}
		})
	}
	group.Wait()
}

func TestDigestLeavesNoGoroutine(t *testing.T) {
	before := runtime.NumGoroutine()
	l := someTree(rand.New(rand.NewSource(72)), 80)
	for range 200 {
		bindery.Digest(l)
	}
	// One that has done its work may still be counted for a moment.
	for range 100 {
		if runtime.NumGoroutine() <= before {
			return
		}
		time.Sleep(10 * time.Millisecond)
	}
	t.Errorf("P2: %d goroutines ahead of the calls, %d behind", before, runtime.NumGoroutine())
}
