package bindery_test

import (
	"fmt"
	"math/rand"
	"regexp"
	"slices"
	"strings"
	"sync"
	"testing"

	"bindery/api"
	"bindery/bindery"
)

var someDigest = strings.Repeat("0123456789abcdef", 4)

var aLine = regexp.MustCompile(`\A([A-Za-z0-9._-]{1,16}) ([A-Za-z0-9._-]{1,16}) ([0-9a-f]{64})\n\z`)

// modelLock tells what P10 asks for of a text: what the lines say, or the number of the first that may not be there.
func modelLock(s string) ([]api.Locked, int) {
	var l []api.Locked
	for line := range strings.Lines(s) {
		parts := aLine.FindStringSubmatch(line)
		if parts == nil || aDotName.MatchString(parts[1]) || aDotName.MatchString(parts[2]) {
			return nil, len(l) + 1
		}
		if len(l) == 10 || len(l) > 0 && strings.Compare(l[len(l)-1].Name, parts[1]) >= 0 {
			return nil, len(l) + 1
		}
		l = append(l, api.Locked{Name: parts[1], Version: parts[2], Digest: parts[3]})
	}
	return l, 0
}

func lineErrno(at int) api.Errno {
	if at > 0 {
		return api.ErrLine
	}
	return api.OK
}

func linesOf(l []api.Locked) string {
	var text strings.Builder
	for _, m := range l {
		fmt.Fprintf(&text, "%s %s %s\n", m.Name, m.Version, m.Digest)
	}
	return text.String()
}

// checkLock holds ReadLock against the line that a test says is the first wrong one; 0 if none is.
func checkLock(t *testing.T, s string, at int) {
	t.Helper()
	want, k := modelLock(s)
	if k != at {
		t.Fatalf("the model says %d of %s, the test %d", k, brief(s), at)
	}
	if l, e, k := bindery.ReadLock(s); !slices.Equal(l, want) || e != lineErrno(at) || k != at {
		t.Errorf("P10: ReadLock(%s) = %s, %d, %d, want %s, %d", brief(s), brief(l), e, k, brief(want), at)
	}
	if at == 0 {
		checkPrint(t, want, 0)
	}
}

// checkPrint holds PrintLock against the first module that a test says is wrong; 0 if none is.
func checkPrint(t *testing.T, l []api.Locked, at int) {
	t.Helper()
	want := linesOf(l)
	if at > 0 {
		want = ""
	}
	guardedBy(t, l, []api.Locked{{Name: "spare"}, {Version: "spare"}, {Digest: "spare"}}, func(l []api.Locked) {
		if s, e, k := bindery.PrintLock(l); s != want || e != lineErrno(at) || k != at {
			t.Errorf("P10: PrintLock(%s) = %s, %d, %d, want %s, %d", brief(l), brief(s), e, k, brief(want), at)
		}
	})
}

// checkModules holds both calls against modules of which the lines are the same ones.
func checkModules(t *testing.T, at int, l ...api.Locked) {
	t.Helper()
	checkLock(t, linesOf(l), at)
	checkPrint(t, l, at)
}

func module(name string) api.Locked { return api.Locked{Name: name, Version: "1", Digest: someDigest} }

func modules(n int) []api.Locked {
	var l []api.Locked
	for k := range n {
		l = append(l, api.Locked{Name: fmt.Sprintf("m%03d", k), Version: fmt.Sprint("v", k), Digest: bindery.Sum(fmt.Sprint(k))})
	}
	return l
}

func TestLockOfNoLines(t *testing.T) {
	checkLock(t, "", 0)
	checkModules(t, 0)
	checkPrint(t, []api.Locked{}, 0)
}

func TestLockOfKnownLines(t *testing.T) {
	l, e, at := bindery.ReadLock("A_b-9. v1.0-rc_2 " + someDigest + "\nb 1 " + strings.Repeat("f", 64) + "\n")
	want := []api.Locked{{Name: "A_b-9.", Version: "v1.0-rc_2", Digest: someDigest}, {Name: "b", Version: "1", Digest: strings.Repeat("f", 64)}}
	if !slices.Equal(l, want) || e != api.OK || at != 0 {
		t.Errorf("P10: ReadLock = %v, %d, %d, want %v", l, e, at, want)
	}
	checkModules(t, 0, want...)
}

func TestLockOfAsManyLinesAsMayBe(t *testing.T) {
	for n := range 11 {
		checkModules(t, 0, modules(n)...)
	}
	for _, n := range []int{11, 12, 20, 999} {
		checkModules(t, 11, modules(n)...)
	}
	ten := linesOf(modules(10))
	// The eleventh may not be, whatever it is.
	for _, more := range []string{"\n", "x", "x\n", " ", "\n\n", "z 1 " + someDigest, "z 1 " + someDigest + "\n", "a 1 " + someDigest + "\n"} {
		checkLock(t, ten+more, 11)
	}
	checkModules(t, 11, append(modules(10), api.Locked{})...)
	checkModules(t, 11, append(modules(10), module("a"))...)
	// One ahead of it is told first.
	for k := range 10 {
		l := modules(12)
		l[k].Digest = "x"
		checkModules(t, k+1, l...)
	}
}

func TestLockOfLineFeeds(t *testing.T) {
	line := "a 1 " + someDigest
	checkLock(t, line+"\n", 0)
	checkLock(t, line, 1)
	checkLock(t, "\n", 1)
	checkLock(t, "\n\n", 1)
	checkLock(t, "\n"+line+"\n", 1)
	checkLock(t, line+"\n\n", 2)
	checkLock(t, line+"\n ", 2)
	checkLock(t, line+"\r\n", 1)
	checkLock(t, line+"\r", 1)
	checkLock(t, line+"\n\r", 2)
	checkLock(t, line+"\nb 1 "+someDigest, 2)
	checkLock(t, line+"\n\nb 1 "+someDigest+"\n", 2)
	checkLock(t, line+"b 1 "+someDigest+"\n", 1)
	checkLock(t, line+"\x00\n", 1)
	checkLock(t, line+"\u2028", 1)
	checkLock(t, "\xef\xbb\xbf"+line+"\n", 1)
}

func TestLockOfSpaces(t *testing.T) {
	for _, line := range []string{
		" a 1 " + someDigest, "a  1 " + someDigest, "a 1  " + someDigest, "a 1 " + someDigest + " ", "a 1 " + someDigest + " x", "a\t1 " + someDigest, "a 1\t" + someDigest, "a1 " + someDigest, "a 1" + someDigest, "a\u00a01 " + someDigest,
		"a", "a 1", "a 1 ", "a ", " ", "  ", "   ", someDigest, " " + someDigest, "  " + someDigest, "1 " + someDigest, "a  " + someDigest, " 1 " + someDigest, "a " + someDigest, "a " + someDigest + " 1", "# a 1 " + someDigest,
	} {
		checkLock(t, line+"\n", 1)
		checkLock(t, "- 1 "+someDigest+"\n"+line+"\n", 2)
	}
}

// What a line would tell otherwise than it was meant may not be written.
func TestLockOfPartsThatHoldSpacesOrLineFeeds(t *testing.T) {
	for _, part := range []string{"a b", " ", "a ", " a", "\n", "a\n", "\na", "a\nb", "a 1 " + someDigest, "a 1 " + someDigest + "\nb"} {
		checkPrint(t, []api.Locked{{Name: part, Version: "1", Digest: someDigest}}, 1)
		checkPrint(t, []api.Locked{{Name: "a", Version: part, Digest: someDigest}}, 1)
		checkPrint(t, []api.Locked{{Name: "a", Version: "1", Digest: part}}, 1)
	}
	checkPrint(t, []api.Locked{{Name: "a", Version: "1", Digest: someDigest + "\n"}}, 1)
	checkPrint(t, []api.Locked{{Name: "a", Version: "1", Digest: someDigest + "\nb 1 " + someDigest}}, 1)
	checkPrint(t, []api.Locked{{Name: "a", Version: "1", Digest: someDigest[1:] + "\n"}}, 1)
}

func TestLockOfNamesAndVersions(t *testing.T) {
	for _, part := range []string{"a", "Z", "0", "-", "_", "...", ".a", "a.", "..a", "a..", strings.Repeat("n", 15), strings.Repeat("n", 16), "vendor", "stage"} {
		checkModules(t, 0, api.Locked{Name: part, Version: "1", Digest: someDigest})
		checkModules(t, 0, api.Locked{Name: "a", Version: part, Digest: someDigest})
	}
	for _, part := range []string{"", ".", "..", "/", "a/b", "/a", "a/", "é", "a\x00", "a\\b", "*", strings.Repeat("n", 17), strings.Repeat("n", 100000)} {
		checkModules(t, 1, api.Locked{Name: part, Version: "1", Digest: someDigest})
		checkModules(t, 1, api.Locked{Name: "a", Version: part, Digest: someDigest})
		checkModules(t, 2, module("-"), api.Locked{Name: "a", Version: part, Digest: someDigest})
	}
}

func TestLockOfAllBytes(t *testing.T) {
	const inNames = "abcdefghijklmnopqrstuvwxyzABCDEFGHIJKLMNOPQRSTUVWXYZ0123456789._-"
	for c := range 256 {
		s := string([]byte{byte(c)})
		at := 1
		if strings.Contains(inNames, s) {
			at = 0
		}
		for _, part := range []string{"n" + s, s + "n", "n" + s + "n"} {
			checkPrint(t, []api.Locked{{Name: part, Version: "1", Digest: someDigest}}, at)
			checkPrint(t, []api.Locked{{Name: "n", Version: part, Digest: someDigest}}, at)
			checkLock(t, part+" 1 "+someDigest+"\n", at)
			checkLock(t, "n "+part+" "+someDigest+"\n", at)
		}
		at = 1
		if strings.Contains("0123456789abcdef", s) {
			at = 0
		}
		for _, digest := range []string{s + someDigest[1:], someDigest[:31] + s + someDigest[32:], someDigest[:63] + s} {
			checkPrint(t, []api.Locked{{Name: "n", Version: "1", Digest: digest}}, at)
			checkLock(t, "n 1 "+digest+"\n", at)
		}
	}
}

func TestLockOfDigests(t *testing.T) {
	for _, digest := range []string{someDigest, strings.Repeat("0", 64), strings.Repeat("f", 64), bindery.Sum("")} {
		checkModules(t, 0, api.Locked{Name: "a", Version: "1", Digest: digest})
	}
	for _, digest := range []string{"", "0", someDigest[:32], someDigest[:63], someDigest + "0", someDigest + someDigest, strings.ToUpper(someDigest), someDigest[:63] + "F", strings.Repeat("g", 64), "0x" + someDigest[:62], "-" + someDigest[:63], someDigest[:62] + "é", strings.Repeat("\u0661", 32), strings.Repeat("\u0661", 64), strings.Repeat("0", 1000000)} {
		checkModules(t, 1, api.Locked{Name: "a", Version: "1", Digest: digest})
		checkModules(t, 2, module("-"), api.Locked{Name: "a", Version: "1", Digest: digest})
	}
}

func TestLockOfNamesThatRise(t *testing.T) {
	names := []string{"-", "--", "-.", "...", "..a", ".a", "0", "00", "1", "10", "2", "9", "A", "Z", "Za", "_", "a", "a-", "a.", "a0", "aA", "a_", "aa", "b", "z"}
	for i, first := range names {
		for k, second := range names {
			at := 0
			if k <= i {
				at = 2
			}
			checkModules(t, at, module(first), module(second))
			checkModules(t, at, api.Locked{Name: first, Version: "9", Digest: someDigest}, api.Locked{Name: second, Version: "10", Digest: bindery.Sum("")})
		}
	}
	// A name is held against the one just ahead, and all others are below that.
	checkModules(t, 3, module("a"), module("c"), module("b"))
	checkModules(t, 3, module("b"), module("c"), module("b"))
	checkModules(t, 4, module("a"), module("b"), module("c"), module("c"), module("a"))
	// Versions and digests need not rise.
	checkModules(t, 0, api.Locked{Name: "a", Version: "2", Digest: strings.Repeat("f", 64)}, api.Locked{Name: "b", Version: "1", Digest: someDigest}, api.Locked{Name: "c", Version: "1", Digest: someDigest})
}

func TestLockTellsTheFirstWrongLine(t *testing.T) {
	for first := range 10 {
		for second := first; second < 10; second++ {
			for _, wrong := range []api.Locked{{}, {Name: "m", Version: "1", Digest: someDigest}, {Name: "zz", Version: "1", Digest: "1"}, {Name: "zz", Version: ".", Digest: someDigest}} {
				l := modules(10)
				l[first], l[second] = wrong, wrong
				if first == 0 && wrong.Name == "m" {
					continue // there it is right
				}
				checkModules(t, first+1, l...)
			}
		}
	}
	checkPrint(t, []api.Locked{module("b"), module("a"), {}}, 2)
	checkPrint(t, make([]api.Locked, 100000), 1)
}

func TestLockOfLongTexts(t *testing.T) {
	for _, piece := range []string{"\n", " ", "a", "a ", "a b ", "\x00", someDigest} {
		checkLock(t, strings.Repeat(piece, 1000000/len(piece)), 1)
		checkLock(t, "a 1 "+someDigest+"\n"+strings.Repeat(piece, 1000000/len(piece)), 2)
	}
	checkLock(t, strings.Repeat("a 1 "+someDigest+"\n", 10000), 2)
}

// change puts another piece into a text somewhere.
func change(r *rand.Rand, s string) string {
	i, n := r.Intn(len(s)+1), r.Intn(3)
	with := []string{"", " ", "\n", "0", "a", "f", "g", "A", "/", ".", "\x00", "é", "b 1 " + someDigest + "\n"}[r.Intn(13)]
	return s[:i] + with + s[min(len(s), i+n):]
}

func TestLockOfChance(t *testing.T) {
	r := rand.New(rand.NewSource(100))
	count := make([]int, 12)
	for range 3000 {
		s := linesOf(modules(r.Intn(13)))
		for range r.Intn(4) {
			s = change(r, s)
		}
		_, at := modelLock(s)
		checkLock(t, s, at)
		count[at]++
	}
	for at, n := range count {
		if n < 10 {
			t.Errorf("only %d texts with line %d", n, at)
		}
	}
}

func TestLockOfEachTextThatIsOneByteShorter(t *testing.T) {
	s := linesOf(modules(3))
	for i := range len(s) {
		cut := s[:i] + s[i+1:]
		_, at := modelLock(cut)
		checkLock(t, cut, at)
		_, at = modelLock(s[:i])
		checkLock(t, s[:i], at)
	}
}

func TestReadLocksAreNewMemory(t *testing.T) {
	for n := range 11 {
		s := linesOf(modules(n))
		first, _, _ := bindery.ReadLock(s)
		second, _, _ := bindery.ReadLock(s)
		first = first[:cap(first)]
		for i := range first {
			first[i] = module("over")
		}
		if !slices.Equal(second, modules(n)) {
			t.Errorf("P2: %v is changed by writing into another list", second)
		}
		checkLock(t, s, 0)
	}
}

func TestLockAtTheSameTime(t *testing.T) {
	all := modules(10)
	var group sync.WaitGroup
	for n := range 16 {
		group.Go(func() {
			for range 20 {
				s, e, at := bindery.PrintLock(all)
				if s != linesOf(all) || e != api.OK || at != 0 {
					t.Errorf("P2: PrintLock = %q, %d, %d", s, e, at)
				}
				checkModules(t, max(0, min(11, n)-10)*11, modules(n)...)
			}
		})
	}
	group.Wait()
}

func FuzzReadLock(f *testing.F) {
	f.Add("")
	f.Add("a 1 " + someDigest + "\n")
	f.Add(linesOf(modules(11)))
	f.Fuzz(func(t *testing.T, s string) {
		_, at := modelLock(s)
		checkLock(t, s, at)
	})
}
