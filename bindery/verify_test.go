package bindery_test

import (
	"encoding/hex"
	"fmt"
	"math/rand"
	"runtime"
	"slices"
	"strings"
	"sync"
	"testing"
	"time"

	"bindery/api"
	"bindery/bindery"
)

// modelVerify tells what P11 asks for.
func modelVerify(disk []api.Entry, lock string) ([]int, api.Errno, int) {
	if !modelIsDisk(disk) {
		return nil, api.ErrTree, 0
	}
	lines, at := modelLock(lock)
	if at != 0 {
		return nil, api.ErrLine, at
	}
	var want []int
	for _, m := range lines {
		want = append(want, modelStanding(disk, m))
	}
	return want, api.OK, 0
}

func modelStanding(disk []api.Entry, m api.Locked) int {
	var within []api.Entry
	here, isDir := false, false
	for _, e := range disk {
		names := namesOf(e)
		if len(names) < 2 || names[0] != "vendor" || names[1] != m.Name {
			continue
		}
		if len(names) == 2 {
			here, isDir = true, e.Dir
			continue
		}
		e.Path = strings.Join(names[2:], "/")
		within = append(within, e)
	}
	no, _ := modelCheck(within)
	switch {
	case !here:
		return 0
	case isDir && no == api.OK && digestOf(within...) == m.Digest:
		return 1
	}
	return 2
}

func digestOf(l ...api.Entry) string { return hexOf(modelDigest(l)) }

func hexOf(raw string) string { return hex.EncodeToString([]byte(raw)) }

// checkVerify holds Verify against what the test says, and that against the model.
func checkVerify(t *testing.T, disk []api.Entry, lock string, no api.Errno, at int, want ...int) {
	t.Helper()
	if l, e, k := modelVerify(disk, lock); !slices.Equal(l, want) || e != no || k != at {
		t.Fatalf("the model says %v, %d, %d of %s, %s, the test %v, %d, %d", l, e, k, brief(disk), brief(lock), want, no, at)
	}
	guarded(t, disk, func(disk []api.Entry) {
		if l, e, k := bindery.Verify(disk, lock); !slices.Equal(l, want) || e != no || k != at {
			t.Errorf("P11: Verify(%s, %s) = %v, %d, %d, want %v, %d, %d", brief(disk), brief(lock), l, e, k, want, no, at)
		}
	})
}

// checkStanding holds Verify against how one module, a, stands.
func checkStanding(t *testing.T, want int, digest string, disk ...api.Entry) {
	t.Helper()
	checkVerify(t, disk, "a 1 "+digest+"\n", api.OK, 0, want)
}

// moved lays entries into a place, with the directories that lead to it.
func moved(place string, l ...api.Entry) []api.Entry {
	var disk []api.Entry
	names := strings.Split(place, "/")
	for k := range names {
		disk = append(disk, dir(strings.Join(names[:k+1], "/")))
	}
	for _, e := range l {
		e.Path = place + "/" + e.Path
		disk = append(disk, e)
	}
	return disk
}

// filled gives the first entry so many bytes.
func filled(l []api.Entry, bytes int) []api.Entry {
	l[0].Body = strings.Repeat("x", bytes)
	return l
}

var some = []api.Entry{file("x", "1"), dir("y"), file("y/z", ""), dir("y/e")}

func TestVerifyOfModulesThatAreGood(t *testing.T) {
	checkStanding(t, 1, digestOf(some...), moved("vendor/a", some...)...)
	checkStanding(t, 1, bindery.Sum("d"), dir("vendor"), dir("vendor/a"))
	checkStanding(t, 1, digestOf(dir("b")), dir("vendor"), dir("vendor/a"), dir("vendor/a/b"))
	// What is elsewhere does not count.
	disk := append(moved("vendor/a", some...), file("x", "2"), dir("y"), file("y/z", "2"), dir("vendor/b"), file("vendor/b/x", "2"), file("vendor/x", "2"), dir("a"), dir("a/vendor"), dir("a/vendor/a"), file("a/vendor/a/x", "2"))
	checkStanding(t, 1, digestOf(some...), disk...)
	// Once as 64 letters, so that this leans on no model: the digest of a file a with the Body x.
	checkStanding(t, 1, "36ee5b433a5497021b504867a48a6ec0d3a6172d0352ff0d94bb7526439e1eef", dir("vendor"), dir("vendor/a"), file("vendor/a/a", "x"))
}

func TestVerifyOfModulesInEveryOrder(t *testing.T) {
	disk := moved("vendor/a", file("x", "1"), dir("y"), file("y/z", ""))
	allOrders(append(disk, file("o", "")), func(disk []api.Entry) {
		checkStanding(t, 1, digestOf(file("x", "1"), dir("y"), file("y/z", "")), disk...)
	})
}

func TestVerifyOfModulesThatAreAbsent(t *testing.T) {
	digest := digestOf(some...)
	checkStanding(t, 0, digest)
	checkStanding(t, 0, digest, dir("vendor"))
	checkStanding(t, 0, digest, file("vendor", ""))
	checkStanding(t, 0, digest, file("vendor", "a"))
	checkStanding(t, 0, digest, moved("a", some...)...)
	checkStanding(t, 0, digest, moved("stage/a", some...)...)
	checkStanding(t, 0, digest, moved("Vendor/a", some...)...)
	checkStanding(t, 0, digest, moved("vendor/A", some...)...)
	checkStanding(t, 0, digest, moved("vendor/ab", some...)...)
	checkStanding(t, 0, digest, moved("vendor/a.", some...)...)
	checkStanding(t, 0, digest, moved("vendor/b/a", some...)...)
	checkStanding(t, 0, digest, moved("a/vendor/a", some...)...)
	checkStanding(t, 0, digest, moved("vendor/vendor/a", some...)...)
	checkStanding(t, 0, digest, moved("vendor", some...)...)
	checkStanding(t, 0, bindery.Sum("d"), dir("vendor"), file("vendor/ab", ""))
}

func TestVerifyOfModulesThatAreWrong(t *testing.T) {
	digest := digestOf(some...)
	checkStanding(t, 2, digest, dir("vendor"), dir("vendor/a"))
	checkStanding(t, 2, bindery.Sum("d"), moved("vendor/a", some...)...)
	checkStanding(t, 2, hexOf(strings.Repeat("\x00", 32)), moved("vendor/a", some...)...)
	for i := range some {
		other := slices.Clone(some)
		other[i].Path += "x"
		if modelIsDisk(other) {
			checkStanding(t, 2, digest, moved("vendor/a", other...)...)
		}
		other = slices.Delete(slices.Clone(some), i, i+1)
		if modelIsDisk(other) {
			checkStanding(t, 2, digest, moved("vendor/a", other...)...)
		}
		other = slices.Clone(some)
		if !other[i].Dir {
			other[i].Body += "\x00"
			checkStanding(t, 2, digest, moved("vendor/a", other...)...)
			other[i] = dir(other[i].Path)
			checkStanding(t, 2, digest, moved("vendor/a", other...)...)
		}
	}
	for _, more := range []api.Entry{file("w", ""), dir("w"), file("y/w", ""), dir("y/e/w"), file("x.", "1")} {
		checkStanding(t, 2, digest, moved("vendor/a", append(slices.Clone(some), more)...)...)
	}
	// The tree one directory too deep, and one not deep enough.
	checkStanding(t, 2, digest, moved("vendor/a/a", some...)...)
	checkStanding(t, 2, digestOf(moved("a", some...)...), moved("vendor/a", some...)...)
}

func TestVerifyOfModulesThatAreFiles(t *testing.T) {
	for _, body := range []string{"", "x", "d"} {
		for _, digest := range []string{bindery.Sum(body), bindery.Sum("f" + body), bindery.Sum("d"), digestOf(file("a", body))} {
			checkStanding(t, 2, digest, dir("vendor"), file("vendor/a", body))
		}
	}
}

// A digest alone does not make it good: what is within must be a tree by its bounds, which are not the disk's.
func TestVerifyOfModulesAsGreatAsMayBe(t *testing.T) {
	for _, n := range []int{59, 60, 61, 62, 198} {
		want := 1
		if n > 60 {
			want = 2
		}
		checkStanding(t, want, digestOf(rows(n)...), moved("vendor/a", rows(n)...)...)
	}
	for _, bytes := range []int{7999, 8000, 8001, 40000} {
		want := 1
		if bytes > 8000 {
			want = 2
		}
		l := filled(rows(3), bytes)
		checkStanding(t, want, digestOf(l...), moved("vendor/a", l...)...)
		both := []api.Entry{file("a", strings.Repeat("y", bytes-1)), file("b", "y")}
		checkStanding(t, want, digestOf(both...), moved("vendor/a", both...)...)
	}
	// Nor is what is too great held for nothing.
	checkStanding(t, 2, digestOf(), moved("vendor/a", rows(61)...)...)
	checkStanding(t, 2, digestOf(), moved("vendor/a", filled(rows(1), 8001)...)...)
	// As great a tree on as great a disk.
	full := filled(rows(60), 8000)
	disk := slices.Concat(moved("vendor/a", full...), moved("o", filled(rows(137), 32000)...))
	checkStanding(t, 1, digestOf(full...), disk...)
	deep := moved("b/c/d", file("e", "x"))
	checkStanding(t, 1, digestOf(deep...), moved("vendor/a", deep...)...)
}

func TestVerifyOfADiskAsGreatAsMayBe(t *testing.T) {
	lock := linesOf([]api.Locked{module("a")})
	checkVerify(t, rows(199), lock, api.OK, 0, 0)
	checkVerify(t, rows(200), lock, api.OK, 0, 0)
	checkVerify(t, rows(201), lock, api.ErrTree, 0)
	checkVerify(t, rows(5000), lock, api.ErrTree, 0)
	checkVerify(t, make([]api.Entry, 200), lock, api.ErrTree, 0)
	checkVerify(t, make([]api.Entry, 1000000), lock, api.ErrTree, 0)
	checkVerify(t, filled(rows(1), 39999), lock, api.OK, 0, 0)
	checkVerify(t, filled(rows(200), 40000), lock, api.OK, 0, 0)
	checkVerify(t, filled(rows(1), 40001), lock, api.ErrTree, 0)
	checkVerify(t, append(filled(rows(2), 40000), file("b", "x")), lock, api.ErrTree, 0)
	l := rows(200)
	for k := range l {
		l[k].Body = strings.Repeat("x", 200)
	}
	checkVerify(t, l, lock, api.OK, 0, 0)
	l[199].Body += "x"
	checkVerify(t, l, lock, api.ErrTree, 0)
}

func TestVerifyOfADiskThatIsNone(t *testing.T) {
	lock := linesOf([]api.Locked{module("a")})
	for _, l := range [][]api.Entry{
		{file("", "")}, {dir("..")}, {file("a/", "")}, {file("seventeen_bytes17", "")}, {dir("a"), dir("a/b"), dir("a/b/c"), dir("a/b/c/d"), dir("a/b/c/d/e"), dir("a/b/c/d/e/f"), dir("a/b/c/d/e/f/g")},
		{{Path: "a", Dir: true, Body: "x"}}, {{Path: "vendor", Dir: true, Body: "x"}},
		{file("a", ""), file("a", "")}, {dir("vendor"), dir("vendor")}, {dir("vendor"), file("vendor", "")},
		{dir("vendor/a")}, {file("vendor", ""), dir("vendor/a")}, {dir("vendor"), file("vendor/a", ""), file("vendor/a/b", "")}, {dir("vendor"), file("vendor/a/b", "")}, {dir("ven"), file("vendor/a", "")},
	} {
		checkVerify(t, l, lock, api.ErrTree, 0)
		checkVerify(t, l, "", api.ErrTree, 0)
		// That comes ahead of any line.
		checkVerify(t, l, "x", api.ErrTree, 0)
		checkVerify(t, l, lock+lock, api.ErrTree, 0)
		// What is wrong may also stand last.
		checkVerify(t, append(rows(150), l...), lock, api.ErrTree, 0)
	}
}

func TestVerifyOfWrongLines(t *testing.T) {
	disk := moved("vendor/a", some...)
	good := "a 1 " + digestOf(some...) + "\n"
	checkVerify(t, disk, "", api.OK, 0)
	checkVerify(t, nil, "", api.OK, 0)
	checkVerify(t, disk, good, api.OK, 0, 1)
	checkVerify(t, disk, good[:len(good)-1], api.ErrLine, 1)
	checkVerify(t, disk, good+good, api.ErrLine, 2)
	checkVerify(t, disk, good+"\n", api.ErrLine, 2)
	checkVerify(t, disk, "\n"+good, api.ErrLine, 1)
	checkVerify(t, disk, strings.ToUpper(good), api.ErrLine, 1)
	checkVerify(t, disk, good+"../a 1 "+someDigest+"\n", api.ErrLine, 2)
	checkVerify(t, nil, linesOf(modules(11)), api.ErrLine, 11)
	for k := range 10 {
		l := modules(12)
		l[k].Version = ""
		checkVerify(t, disk, linesOf(l), api.ErrLine, k+1)
	}
}

// Each line has an answer of its own, whatever the others have.
func TestVerifyOfManyLines(t *testing.T) {
	disk := []api.Entry{dir("vendor")}
	var l []api.Locked
	var want []int
	for k := range 10 {
		name := fmt.Sprint("m", k)
		within := []api.Entry{file("n", name), dir("d"), file("d/n", name)}
		l = append(l, api.Locked{Name: name, Version: "1", Digest: digestOf(within...)})
		want = append(want, (k*k+k/3)%3)
		switch want[k] {
		case 1:
			disk = append(disk, moved("vendor/"+name, within...)[1:]...)
		case 2:
			disk = append(disk, moved("vendor/"+name, within[:2]...)[1:]...)
		}
	}
	for n := range 11 {
		checkVerify(t, disk, linesOf(l[:n]), api.OK, 0, want[:n]...)
		checkVerify(t, disk, linesOf(l[10-n:]), api.OK, 0, want[10-n:]...)
	}
	for n := range 11 {
		checkVerify(t, nil, linesOf(l[:n]), api.OK, 0, make([]int, n)...)
	}
}

func TestVerifyOfNamesOfItsOwnDirectories(t *testing.T) {
	digest := digestOf(some...)
	lock := "stage 1 " + digest + "\nvendor 1 " + digest + "\n"
	checkVerify(t, moved("vendor", some...), lock, api.OK, 0, 0, 0)
	checkVerify(t, moved("stage", some...), lock, api.OK, 0, 0, 0)
	checkVerify(t, moved("vendor/vendor", some...), lock, api.OK, 0, 0, 1)
	checkVerify(t, moved("vendor/stage", some...), lock, api.OK, 0, 1, 0)
}

// someDisk lays trees into vendor, and tells modules of which some stand there.
func someDisk(r *rand.Rand) ([]api.Entry, []api.Locked) {
	disk := append([]api.Entry{dir("vendor")}, someTree(r, r.Intn(10))...)
	var l []api.Locked
	for _, name := range []string{"A", "a", "a-", "aa", "b"} {
		// Deeper ones would be no paths in vendor.
		within := slices.DeleteFunc(someTree(r, r.Intn(12)), func(e api.Entry) bool { return len(namesOf(e)) > 3 || len(e.Path) > 40 })
		l = append(l, api.Locked{Name: name, Version: "1", Digest: digestOf(within...)})
		switch r.Intn(6) {
		case 0:
		case 1:
			disk = append(disk, file("vendor/"+name, "x"))
		case 2:
			disk = append(disk, moved("vendor/"+name, append(within, file("more", ""))...)[1:]...)
		default:
			disk = append(disk, moved("vendor/"+name, within...)[1:]...)
		}
	}
	return shuffled(r, disk), l
}

func TestVerifyOfChance(t *testing.T) {
	r := rand.New(rand.NewSource(110))
	count := make([]int, 3)
	errors := map[api.Errno]int{}
	for range 1500 {
		disk, l := someDisk(r)
		lock := linesOf(l)
		if r.Intn(3) == 0 {
			disk = spoil(r, disk)
		}
		if r.Intn(4) == 0 {
			lock = change(r, lock)
		}
		want, no, at := modelVerify(disk, lock)
		checkVerify(t, disk, lock, no, at, want...)
		errors[no]++
		for _, how := range want {
			count[how]++
		}
	}
	if slices.Min(count) < 300 || errors[api.ErrTree] < 100 || errors[api.ErrLine] < 100 {
		t.Errorf("too few of a kind: %v, %v", count, errors)
	}
}

func TestVerifiedListsAreNewMemory(t *testing.T) {
	disk := moved("vendor/m000", some...)
	lock := linesOf(modules(5))
	first, _, _ := bindery.Verify(disk, lock)
	second, _, _ := bindery.Verify(disk, lock)
	first = first[:cap(first)]
	for i := range first {
		first[i] = 77
	}
	if !slices.Equal(second, []int{2, 0, 0, 0, 0}) {
		t.Errorf("P2: %v is changed by writing into another list", second)
	}
	checkVerify(t, disk, lock, api.OK, 0, 2, 0, 0, 0, 0)
	none, _, _ := bindery.Verify(disk, "")
	_ = append(none, 77)
	checkVerify(t, disk, "", api.OK, 0)
}

// The disk is read at each call: what was answered of it before is not kept.
func TestVerifyHangsOnItsArgumentsAlone(t *testing.T) {
	disk := moved("vendor/a", some...)
	digest := digestOf(some...)
	checkStanding(t, 1, digest, disk...)
	for i := range disk {
		if disk[i].Body == "1" {
			disk[i].Body = "2"
		}
	}
	checkStanding(t, 2, digest, disk...)
	checkStanding(t, 0, digest, disk[:1]...)
}

func TestVerifyAtTheSameTime(t *testing.T) {
	r := rand.New(rand.NewSource(111))
	disk, l := someDisk(r)
	want, _, _ := modelVerify(disk, linesOf(l))
	var group sync.WaitGroup
	for range 16 {
		other, lines := someDisk(r)
		group.Go(func() {
			for range 5 {
				how, no, at := modelVerify(other, linesOf(lines))
				checkVerify(t, other, linesOf(lines), no, at, how...)
				// All of them read this one.
				if how, e, at := bindery.Verify(disk, linesOf(l)); !slices.Equal(how, want) || e != api.OK || at != 0 {
					t.Errorf("P2: Verify = %v, %d, %d, want %v", how, e, at, want)
				}
			}
		})
	}
	group.Wait()
}

func TestVerifyLeavesNoGoroutine(t *testing.T) {
	before := runtime.NumGoroutine()
	disk := moved("vendor/m000", rows(60)...)
	lock := linesOf(modules(10))
	for range 200 {
		bindery.Verify(disk, lock)
	}
	// One that has done its work may still be counted for a moment.
	for range 100 {
		if runtime.NumGoroutine() <= before {
			return
		}
		time.Sleep(10 * time.Millisecond)
	}
	t.Errorf("P2: %d goroutines ahead of the calls, %d behind", before, runtime.NumGoroutine())
}
