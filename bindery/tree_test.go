package bindery_test

import (
	"fmt"
	"math/rand"
	"slices"
	"strings"
	"testing"

	"bindery/api"
	"bindery/bindery"
)

// checkTree holds Digest and Pack against what P6 says of a list.
func checkTree(t *testing.T, l []api.Entry, no api.Errno, at int) {
	t.Helper()
	if e, k := modelCheck(l); e != no || k != at {
		t.Fatalf("the model says %d, %d of %.200v, the test %d, %d", e, k, l, no, at)
	}
	guarded(t, l, func(l []api.Entry) {
		s, e, k := bindery.Digest(l)
		if e != no || k != at || (len(s) == 64) != (no == api.OK) || (s == "") != (no != api.OK) {
			t.Errorf("P6: Digest(%.200v) = %q, %d, %d, want %d, %d", l, s, e, k, no, at)
		}
	})
	guarded(t, l, func(l []api.Entry) {
		s, e, k := bindery.Pack(l)
		if e != no || k != at || (s == "") != (no != api.OK) {
			t.Errorf("P6: Pack(%.200v) = %d bytes, %d, %d, want %d, %d", l, len(s), e, k, no, at)
		}
	})
}

// checkPath holds an entry against P6, as a file and as a directory, with all parents that it may need.
func checkPath(t *testing.T, path string, no api.Errno) {
	t.Helper()
	for _, e := range []api.Entry{file(path, ""), file(path, "body"), dir(path)} {
		var l []api.Entry
		names := strings.Split(path, "/")
		for k := 1; k < len(names); k++ {
			if p := dir(strings.Join(names[:k], "/")); modelMayBe(p) {
				l = append(l, p)
			}
		}
		at := 0
		if no != api.OK {
			at = len(l)
		}
		checkTree(t, append(l, e), no, at)
	}
}

func rows(n int) []api.Entry {
	var l []api.Entry
	for k := range n {
		l = append(l, file(fmt.Sprint("n", k), ""))
	}
	return l
}

func TestTreeOfAsManyEntriesAsMayBe(t *testing.T) {
	checkTree(t, nil, api.OK, 0)
	checkTree(t, []api.Entry{}, api.OK, 0)
	checkTree(t, rows(1), api.OK, 0)
	checkTree(t, rows(59), api.OK, 0)
	checkTree(t, rows(60), api.OK, 0)
	checkTree(t, rows(61), api.ErrMany, 0)
	checkTree(t, rows(62), api.ErrMany, 0)
	checkTree(t, rows(1000), api.ErrMany, 0)
	var l []api.Entry
	for k := range 60 {
		l = append(l, dir(fmt.Sprint("d", k)))
	}
	checkTree(t, l, api.OK, 0)
	checkTree(t, append(l, dir("d60")), api.ErrMany, 0)
}

func TestTreeOfAsManyBytesAsMayBe(t *testing.T) {
	x := func(n int) string { return strings.Repeat("x", n) }
	checkTree(t, []api.Entry{file("a", x(7999))}, api.OK, 0)
	checkTree(t, []api.Entry{file("a", x(8000))}, api.OK, 0)
	checkTree(t, []api.Entry{file("a", x(8001))}, api.ErrMany, 0)
	checkTree(t, []api.Entry{file("a", x(30000))}, api.ErrMany, 0)
	checkTree(t, []api.Entry{file("a", x(8000)), file("b", "")}, api.OK, 0)
	checkTree(t, []api.Entry{file("a", x(8000)), file("b", "x")}, api.ErrMany, 0)
	checkTree(t, []api.Entry{file("b", "x"), dir("c"), file("c/a", x(8000))}, api.ErrMany, 0)
	l := rows(60)
	for k := range l {
		l[k].Body = x(133)
	}
	l[30].Body = x(133 + 20)
	checkTree(t, l, api.OK, 0)
	l[59].Body = x(134)
	checkTree(t, l, api.ErrMany, 0)
}

func TestTreeOfPathsAsLongAsMayBe(t *testing.T) {
	checkPath(t, strings.Repeat("n", 15), api.OK)
	checkPath(t, strings.Repeat("n", 16), api.OK)
	checkPath(t, strings.Repeat("n", 17), api.ErrPath)
	checkPath(t, "a/"+strings.Repeat("n", 16), api.OK)
	checkPath(t, "a/"+strings.Repeat("n", 17), api.ErrPath)
	checkPath(t, strings.Repeat("n", 17)+"/a", api.ErrPath)
	checkPath(t, "a/b/c/d/e", api.OK)
	checkPath(t, "a/b/c/d/e/f", api.OK)
	checkPath(t, "a/b/c/d/e/f/g", api.ErrPath)
	checkPath(t, "a/b/c/d/e/f/g/h", api.ErrPath)
	long := strings.Repeat("0123456789abcde/", 3) // 48 bytes
	checkPath(t, long+"0123456789abcde", api.OK)  // 63
	checkPath(t, long+"0123456789abcdef", api.OK) // 64
	checkPath(t, long+"0123456789ab/de", api.OK)  // 63
	checkPath(t, long+"0123456789ab/def", api.OK) // 64
	checkPath(t, long+"0123456789ab/defg", api.ErrPath)
	checkPath(t, long+"0123456789abcd/f/", api.ErrPath)
	checkPath(t, strings.Repeat("0123456789abcdef/", 5)+"x", api.ErrPath)
	for _, s := range []string{"a", "/", "a/", "\x00"} {
		checkTree(t, []api.Entry{file(strings.Repeat(s, 100000), "")}, api.ErrPath, 0)
	}
}

func TestTreeOfNamesOfAllBytes(t *testing.T) {
	const good = "abcdefghijklmnopqrstuvwxyzABCDEFGHIJKLMNOPQRSTUVWXYZ0123456789_-"
	for c := range 256 {
		s := string([]byte{byte(c)})
		no, alone := api.ErrPath, api.ErrPath
		if strings.Contains(good, s) {
			no, alone = api.OK, api.OK
		}
		if s == "." {
			no = api.OK
		}
		checkPath(t, s, alone)
		if s == "/" {
			continue
		}
		for _, path := range []string{"n" + s, s + "n", "n" + s + "n", "a/n" + s, "a/" + s + "n", "n" + s + "/a"} {
			checkPath(t, path, no)
		}
	}
}

func TestTreeOfNamesThatMayNotBe(t *testing.T) {
	for _, path := range []string{"", "/", "//", "/a", "a/", "a//b", "/a/b", "a/b/", ".", "..", "./a", "../a", "a/.", "a/..", "a/./b", "a/../b", " ", "a b", " a", "a ", "a\n", "a\x00", "a\\b", "C:", "é", "e\u0301", "a\xff", "*", "~", "a+b", "a@b", "[a]", "a`b", "a{b", "a:b"} {
		checkPath(t, path, api.ErrPath)
	}
	for _, path := range []string{"...", "....", ".a", "..a", "a.", "a..", "-", "--", "_", "-.-", "a/...", ".../a", "..a/b.."} {
		checkPath(t, path, api.OK)
	}
}

func TestTreeOfDirectoriesWithBodies(t *testing.T) {
	full := func(path, body string) api.Entry { return api.Entry{Path: path, Dir: true, Body: body} }
	checkTree(t, []api.Entry{full("a", "x")}, api.ErrPath, 0)
	checkTree(t, []api.Entry{dir("a"), full("b", "\x00")}, api.ErrPath, 1)
	checkTree(t, []api.Entry{dir("a"), file("a/b", "x"), full("a/c", "xyz"), full("d", "x")}, api.ErrPath, 2)
	checkTree(t, []api.Entry{full("a", strings.Repeat("x", 8000))}, api.ErrPath, 0)
	// Such a Body counts with the others.
	checkTree(t, []api.Entry{full("a", strings.Repeat("x", 8001))}, api.ErrMany, 0)
	checkTree(t, []api.Entry{full("a", "x"), file("b", strings.Repeat("x", 8000))}, api.ErrMany, 0)
}

func TestTreeOfPathsThatAreThereTwice(t *testing.T) {
	checkTree(t, []api.Entry{file("a", ""), file("a", "")}, api.ErrTwice, 1)
	checkTree(t, []api.Entry{file("a", "x"), file("a", "y")}, api.ErrTwice, 1)
	checkTree(t, []api.Entry{dir("a"), dir("a")}, api.ErrTwice, 1)
	checkTree(t, []api.Entry{dir("a"), file("a", "")}, api.ErrTwice, 1)
	checkTree(t, []api.Entry{file("a", ""), dir("a")}, api.ErrTwice, 1)
	checkTree(t, []api.Entry{file("a", ""), file("b", ""), file("c", ""), file("b", ""), file("a", "")}, api.ErrTwice, 3)
	checkTree(t, []api.Entry{file("a", ""), file("b", ""), file("a", ""), file("a", "")}, api.ErrTwice, 2)
	checkTree(t, []api.Entry{dir("a"), file("a/b", ""), dir("b"), file("b/b", ""), file("a/b", "")}, api.ErrTwice, 4)
	checkTree(t, []api.Entry{dir("a"), file("a/b", ""), dir("b"), file("b/b", ""), file("a/a", "")}, api.OK, 0)
	// Letters great and small are not one.
	checkTree(t, []api.Entry{file("a", ""), file("A", "")}, api.OK, 0)
	checkTree(t, append(rows(59), file("n0", "")), api.ErrTwice, 59)
}

func TestTreeOfParentsThatAreNotThere(t *testing.T) {
	checkTree(t, []api.Entry{file("a/b", "")}, api.ErrParent, 0)
	checkTree(t, []api.Entry{dir("a/b")}, api.ErrParent, 0)
	checkTree(t, []api.Entry{file("a", ""), file("a/b", "")}, api.ErrParent, 1)
	checkTree(t, []api.Entry{file("a/b", ""), file("a", "")}, api.ErrParent, 0)
	checkTree(t, []api.Entry{dir("a"), file("a/b/c", "")}, api.ErrParent, 1)
	checkTree(t, []api.Entry{dir("a/b"), file("a/b/c", "")}, api.ErrParent, 0)
	checkTree(t, []api.Entry{file("a/b/c", ""), dir("a/b")}, api.ErrParent, 1)
	checkTree(t, []api.Entry{dir("a"), file("a/b", ""), file("c", ""), dir("d"), file("a/b/c", ""), file("d/d/d", "")}, api.ErrParent, 4)
	// What only begins alike is no parent.
	checkTree(t, []api.Entry{dir("a"), file("ab/c", "")}, api.ErrParent, 1)
	checkTree(t, []api.Entry{dir("ab"), file("a/b", "")}, api.ErrParent, 1)
	checkTree(t, []api.Entry{dir("A"), file("a/b", "")}, api.ErrParent, 1)
	checkTree(t, []api.Entry{dir("b"), file("a/b", "")}, api.ErrParent, 1)
}

func TestTreeOfParentsThatComeBehind(t *testing.T) {
	checkTree(t, []api.Entry{file("a/b", ""), dir("a")}, api.OK, 0)
	checkTree(t, []api.Entry{file("a/b/c", ""), dir("a/b"), dir("a")}, api.OK, 0)
	allOrders([]api.Entry{dir("a"), dir("a/b"), dir("a/b/c"), dir("a/b/c/d"), dir("a/b/c/d/e"), file("a/b/c/d/e/f", "x")}, func(l []api.Entry) {
		checkTree(t, l, api.OK, 0)
	})
}

func TestTreeTellsWhatComesFirst(t *testing.T) {
	wrong, twice, alone, big := file("", ""), file("c", ""), file("x/y", ""), file("z", strings.Repeat("x", 8001))
	checkTree(t, []api.Entry{alone, twice, twice, wrong, big}, api.ErrMany, 0)
	checkTree(t, []api.Entry{alone, twice, twice, wrong}, api.ErrPath, 3)
	checkTree(t, []api.Entry{wrong, wrong, alone, twice, twice}, api.ErrPath, 0)
	checkTree(t, []api.Entry{alone, twice, twice}, api.ErrTwice, 2)
	checkTree(t, []api.Entry{alone, alone}, api.ErrTwice, 1)
	checkTree(t, []api.Entry{twice, alone, alone, twice}, api.ErrTwice, 2)
	checkTree(t, []api.Entry{twice, alone}, api.ErrParent, 1)
	checkTree(t, make([]api.Entry, 60), api.ErrPath, 0)
	checkTree(t, make([]api.Entry, 61), api.ErrMany, 0)
	allOrders([]api.Entry{wrong, twice, twice, alone}, func(l []api.Entry) {
		checkTree(t, l, api.ErrPath, slices.Index(l, wrong))
		l = slices.DeleteFunc(l, func(e api.Entry) bool { return e == wrong })
		second := slices.Index(l, twice) + 1
		checkTree(t, l, api.ErrTwice, second+slices.Index(l[second:], twice))
		l = slices.Delete(l, second-1, second)
		checkTree(t, l, api.ErrParent, slices.Index(l, alone))
	})
}

// spoil makes of a tree what is, mostly, none.
func spoil(r *rand.Rand, l []api.Entry) []api.Entry {
	for range 1 + r.Intn(3) {
		e := file("a/b", "")
		if len(l) > 0 {
			e = l[r.Intn(len(l))]
		}
		switch r.Intn(6) {
		case 0:
			e.Dir = !e.Dir
		case 1:
			e.Path += "/x"
		case 2:
			e.Path += "."
		case 3:
			e.Path = "q/" + e.Path
		case 4:
			e.Body += "x"
		}
		l = slices.Insert(l, r.Intn(len(l)+1), e)
		if r.Intn(3) == 0 {
			l = slices.Delete(l, 0, 1)
		}
	}
	return l
}

func TestTreeOfChance(t *testing.T) {
	r := rand.New(rand.NewSource(60))
	count := map[api.Errno]int{}
	for range 3000 {
		l := someTree(r, r.Intn(25))
		checkTree(t, l, api.OK, 0)
		l = spoil(r, l)
		no, at := modelCheck(l)
		checkTree(t, l, no, at)
		count[no]++
	}
	for _, no := range []api.Errno{api.OK, api.ErrPath, api.ErrTwice, api.ErrParent} {
		if count[no] < 100 {
			t.Errorf("only %d lists with %d", count[no], no)
		}
	}
}
