package bindery_test

import (
	"compress/flate"
	"fmt"
	"math/rand"
	"runtime"
	"slices"
	"strings"
	"sync"
	"testing"
	"time"

	"bindery/api"
	"bindery/bindery"
)

// packed tells the archive of a tree, and the lock file with it as the module m.
func packed(l ...api.Entry) (archive, lock string) {
	return storedBlock(1, modelSeries(l)), "m 1 " + digestOf(l...) + "\n"
}

// modelInstall tells the error that P12 asks for, if the archive is that of the tree.
func modelInstall(disk []api.Entry, lock, name string, within []api.Entry) api.Errno {
	if !modelIsDisk(disk) {
		return api.ErrTree
	}
	lines, at := modelLock(lock)
	if at != 0 {
		return api.ErrLine
	}
	i := slices.IndexFunc(lines, func(m api.Locked) bool { return m.Name == name })
	switch {
	case i < 0:
		return api.ErrName
	case lines[i].Digest != digestOf(within...):
		return api.ErrDigest
	case isThere(disk, "vendor") && !slices.Contains(disk, dir("vendor")):
		return api.ErrPlace
	case len(fitting("vendor/"+name, within)) < len(within):
		return api.ErrPlace
	case len(disk) > 200-len(within)-3 || bytesIn(disk) > 40000-bytesIn(within):
		return api.ErrPlace
	}
	return api.OK
}

// elsewhere lists what must stay as it was: vendor itself may come, but not go.
func elsewhere(disk []api.Entry, home string) []api.Entry {
	return slices.DeleteFunc(without(disk, "stage", home), func(e api.Entry) bool { return e.Path == "vendor" })
}

// checkActs plays the acts, and looks behind each of them.
func checkActs(t *testing.T, disk []api.Entry, acts []api.Act, name string, within []api.Entry) []api.Entry {
	t.Helper()
	home := "vendor/" + name
	rest, old, wanted := elsewhere(disk, home), standsAt(disk, home), standsAt(moved(home, within...), home)
	last := play(t, disk, acts, func(now []api.Entry) {
		t.Helper()
		if others := elsewhere(now, home); !slices.Equal(others, rest) {
			t.Fatalf("P12: elsewhere there was %s, and is %s", brief(rest), brief(others))
		}
		if slices.Contains(disk, dir("vendor")) && !slices.Contains(now, dir("vendor")) {
			t.Fatalf("P12: vendor is no directory any more: %s", brief(now))
		}
		if stands := standsAt(now, home); len(stands) > 0 && !slices.Equal(stands, old) && !slices.Equal(stands, wanted) {
			t.Fatalf("P12: in its place there was %s, and is %s", brief(old), brief(stands))
		}
	})
	if last, want := byPath(last), byPath(slices.Concat(rest, []api.Entry{dir("vendor")}, wanted)); !slices.Equal(last, want) {
		t.Fatalf("P12: behind all acts there is %s, want %s", brief(last), brief(want))
	}
	if slices.Equal(old, wanted) && len(standsAt(disk, "stage")) == 0 && len(acts) > 0 {
		t.Fatalf("P12: there is nothing to do, and yet %v", acts)
	}
	return last
}

// checkInstall installs a tree as the module m, and tells the disk with it.
func checkInstall(t *testing.T, no api.Errno, within []api.Entry, disk ...api.Entry) []api.Entry {
	t.Helper()
	archive, lock := packed(within...)
	return checkInstallOf(t, no, disk, lock, "m", archive, within)
}

// checkInstallOf holds Install against what the test says, and that against the model.
func checkInstallOf(t *testing.T, no api.Errno, disk []api.Entry, lock, name, archive string, within []api.Entry) []api.Entry {
	t.Helper()
	if e := modelInstall(disk, lock, name, within); e != no {
		t.Fatalf("the model says %d of %s, %s, %q, %s, the test %d", e, brief(disk), brief(lock), name, brief(within), no)
	}
	last := disk
	guarded(t, disk, func(disk []api.Entry) {
		t.Helper()
		acts, e := bindery.Install(disk, lock, name, archive)
		if e != no || no != api.OK && len(acts) > 0 {
			t.Fatalf("P12: Install(%s, %s, %q) of %s = %v, %d, want %d", brief(disk), brief(lock), name, brief(within), acts, e, no)
		}
		if no == api.OK {
			last = checkActs(t, disk, acts, name, within)
		}
	})
	return last
}

// olds are what may stand at vendor/m when a call begins, with vendor, if it is there.
func olds() [][]api.Entry {
	name := "sixteen_bytes_16"
	other := slices.Clone(some)
	other[0].Body = "2"
	return [][]api.Entry{
		nil, {dir("vendor")}, {dir("vendor"), dir("vendor/m")}, {dir("vendor"), file("vendor/m", "")}, {dir("vendor"), file("vendor/m", "a file")},
		moved("vendor/m", some...), moved("vendor/m", other...), moved("vendor/m", some[:1]...), moved("vendor/m", append(slices.Clone(some), file("more", ""))...),
		// As deep and as long as may be.
		moved("vendor/m/c/d/e", file("f", "x"), dir("g")), moved("vendor/m/"+name+"/"+name+"/"+name, file("2345", "x"), dir("6789")),
		// Greater than a tree may be.
		moved("vendor/m", rows(61)...), moved("vendor/m", filled(rows(3), 20000)...),
		// Names whose order is not that of their paths' bytes.
		moved("vendor/m", dir("a"), dir("a."), file("a./b", ""), file("a/b", ""), dir("a-"), file("a-/b", ""), file("a0", "")),
		moved("vendor/m/vendor/m", some...), moved("vendor/m/stage/n", some...),
	}
}

// neighbours stand beside a module and beside stage, by names that are alike.
func neighbours(hasVendor bool) []api.Entry {
	l := slices.Concat(moved("stage.", file("n", "x")), moved("stages", some...), moved("m", some...), moved("a/vendor/m", file("x", "")), []api.Entry{file("vendor.", "x"), dir("vendo")})
	if hasVendor {
		l = append(l, file("vendor/mm", "x"), dir("vendor/m."), file("vendor/m./x", "1"), dir("vendor/M"), file("vendor/M/x", "1"), dir("vendor/m-"), file("vendor/a", ""), dir("vendor/stage"), file("vendor/stage/n", ""))
	}
	return l
}

func trees() [][]api.Entry {
	name := "sixteen_bytes_16"
	return [][]api.Entry{
		nil, some, {dir("a")}, {file("a", "")}, {dir("n"), file("o", ""), dir("n/n"), file("n/o", "")}, rows(60), filled(rows(2), 8000),
		{dir("a"), dir("a."), file("a./b", ""), file("a/b", ""), dir("a-"), file("a-/b", ""), file("a0", "")},
		moved("b/c/d", file("e", "x"), dir("f")), moved(name+"/"+name+"/"+name, file("2345", "x"), dir("6789")), moved("stage/vendor/m", file("x", "\x00\n\xff")),
	}
}

func TestInstallOfAllThatMayStand(t *testing.T) {
	r := rand.New(rand.NewSource(121))
	for _, old := range olds() {
		for _, stage := range stages() {
			for _, within := range trees() {
				disk := append(slices.Clone(old), stage...)
				if len(within) < 60 {
					disk = append(disk, neighbours(len(old) > 0)...)
				}
				last := checkInstall(t, api.OK, within, shuffled(r, disk)...)
				// Once more: there is nothing to do.
				checkInstall(t, api.OK, within, last...)
			}
		}
	}
}

func TestInstallHasNoActsIfThereIsNothingToDo(t *testing.T) {
	for _, within := range trees() {
		archive, lock := packed(within...)
		disk := append(moved("vendor/m", within...), neighbours(true)...)
		if acts, no := bindery.Install(disk, lock, "m", archive); len(acts) != 0 || no != api.OK {
			t.Errorf("P12: Install = %v, %d", acts, no)
		}
		checkInstall(t, api.OK, within, disk...)
		// Something at stage goes, even an empty directory.
		for _, stage := range stages()[1:] {
			acts, no := bindery.Install(append(slices.Clone(disk), stage...), lock, "m", archive)
			if len(acts) == 0 || no != api.OK {
				t.Errorf("P12: Install with %s = %v, %d", brief(stage), acts, no)
			}
		}
	}
}

func TestInstallInEveryOrder(t *testing.T) {
	disk := []api.Entry{dir("vendor"), dir("vendor/m"), file("vendor/m/a", ""), dir("stage"), dir("stage/n"), file("stage/n/a", "")}
	allOrders(disk, func(disk []api.Entry) { checkInstall(t, api.OK, some, disk...) })
}

// A crash may come behind any act: then all can be done anew, with a Recover between or without.
func TestInstallBehindACrash(t *testing.T) {
	archive, lock := packed(some...)
	for _, old := range olds() {
		for _, stage := range stages()[:8] {
			disk := append(slices.Clone(old), stage...)
			acts, _ := bindery.Install(disk, lock, "m", archive)
			play(t, disk, acts, func(disk []api.Entry) {
				checkInstall(t, api.OK, some, disk...)
				checkInstall(t, api.OK, some[:1], disk...)
				clearing, _ := bindery.Recover(disk)
				clear := play(t, disk, clearing, func(disk []api.Entry) {})
				checkInstall(t, api.OK, some, clear...)
			})
		}
	}
}

func TestInstallOfOneModuleOfMany(t *testing.T) {
	var l []api.Locked
	var disk []api.Entry
	for k := range 10 {
		name := fmt.Sprint("m", k)
		l = append(l, api.Locked{Name: name, Version: "1", Digest: digestOf(file("n", name))})
	}
	lock := linesOf(l)
	for _, k := range []int{3, 0, 9, 1, 2, 8, 5, 4, 7, 6} {
		within := []api.Entry{file("n", l[k].Name)}
		archive, _ := packed(within...)
		disk = checkInstallOf(t, api.OK, disk, lock, l[k].Name, archive, within)
		if how, _, _ := bindery.Verify(disk, lock); how[k] != api.Good {
			t.Errorf("P12: module %d stands as %v", k, how)
		}
		// The digest is held against that name's line, not against another one's.
		for o := range 10 {
			if o != k {
				checkInstallOf(t, api.ErrDigest, disk, lock, l[o].Name, archive, within)
			}
		}
	}
	if how, _, _ := bindery.Verify(disk, lock); !slices.Equal(how, []int{1, 1, 1, 1, 1, 1, 1, 1, 1, 1}) {
		t.Errorf("P12: the modules stand as %v", how)
	}
}

func TestInstallOfNamesOfItsOwnDirectories(t *testing.T) {
	archive, lock := packed(some...)
	for _, name := range []string{"stage", "vendor", "n", "o", "...", "-", "sixteen_bytes_16"} {
		lock := strings.Replace(lock, "m", name, 1)
		for _, stage := range stages() {
			disk := checkInstallOf(t, api.OK, stage, lock, name, archive, some)
			checkInstallOf(t, api.OK, append(disk, stage...), lock, name, archive, some)
			checkInstallOf(t, api.OK, append(moved("vendor/"+name, file("old", "")), stage...), lock, name, archive, some)
		}
	}
}

// An archive is any stream of the series.
func TestInstallOfEachKindOfBlocks(t *testing.T) {
	_, lock := packed(some...)
	own, _, _ := bindery.Pack(some)
	for _, archive := range []string{own, storedBlock(1, modelSeries(some)), storedBlock(0, "") + storedBlock(1, modelSeries(some)), libDeflate(t, modelSeries(some), flate.BestCompression), libDeflate(t, modelSeries(some), flate.HuffmanOnly)} {
		checkInstallOf(t, api.OK, moved("vendor/m", file("old", "")), lock, "m", archive, some)
	}
}

func checkError(t *testing.T, no api.Errno, disk []api.Entry, lock, name, archive string) {
	t.Helper()
	guarded(t, disk, func(disk []api.Entry) {
		t.Helper()
		if acts, e := bindery.Install(disk, lock, name, archive); len(acts) != 0 || e != no {
			t.Errorf("P12: Install(%s, %s, %q, %.60x) = %v, %d, want %d", brief(disk), brief(lock), name, archive, acts, e, no)
		}
	})
}

func TestInstallOfADiskThatIsNone(t *testing.T) {
	archive, lock := packed(some...)
	for _, l := range [][]api.Entry{
		{file("x/y", "")}, {file("", "")}, {dir("..")}, {file("a/", "")}, {dir("a"), dir("a")}, {{Path: "a", Dir: true, Body: "x"}}, {file("stage/n", "")}, {file("vendor/m", "")}, {file("vendor", ""), dir("vendor/m")}, {file("stage", ""), file("stage/n", "")},
		rows(201), filled(rows(1), 40001), make([]api.Entry, 100000),
	} {
		checkError(t, api.ErrTree, l, lock, "m", archive)
		checkError(t, api.ErrTree, append(moved("vendor/m", some...), l...), lock, "m", archive)
	}
}

func TestInstallOfWrongLines(t *testing.T) {
	archive, lock := packed(some...)
	for _, wrong := range []string{lock + "?", lock + "\n", "\n" + lock, lock[:len(lock)-1], lock + lock, strings.ToUpper(lock), "../" + lock, "z" + lock + lock, linesOf(modules(11))} {
		checkError(t, api.ErrLine, nil, wrong, "m", archive)
		checkError(t, api.ErrLine, moved("vendor/m", some...), wrong, "m", archive)
	}
}

func TestInstallOfNamesThatAreNotLocked(t *testing.T) {
	archive, lock := packed(some...)
	checkError(t, api.ErrName, nil, "", "m", archive)
	checkError(t, api.ErrName, moved("vendor/m", some...), "", "m", archive)
	for _, name := range []string{"", "M", "mm", "m ", " m", "m\n", "m 1", "1", ".", "..", "../m", "vendor/m", "stage", lock, strings.Repeat("m", 17), "\x00", "\xff"} {
		checkError(t, api.ErrName, nil, lock, name, archive)
		checkError(t, api.ErrName, moved("vendor/m", some...), lock, name, archive)
	}
}

func TestInstallOfWhatIsNoArchive(t *testing.T) {
	archive, lock := packed(some...)
	series := modelSeries(some)
	for _, wrong := range []string{
		"", "\x07", archive + "x", archive + archive, archive[:len(archive)-1], archive[1:], storedBlock(1, series[1:]), storedBlock(1, series+"\n"), storedBlock(1, strings.Replace(series, "end 4", "end 3", 1)),
		// No stream; more than comes out; more than goes in.
		storedBlock(0, series), storedBlock(0, strings.Repeat("x", 10001)) + storedBlock(0, strings.Repeat("x", 9980)), libDeflate(t, strings.Repeat("x", 20001), flate.BestCompression), strings.Repeat("x", 20001), archive + strings.Repeat("x", 20000),
		// No tree.
		storedBlock(1, modelSeries(rows(61))), storedBlock(1, modelSeries(filled(rows(1), 8001))), storedBlock(1, modelSeries([]api.Entry{file("a/b", "")})), storedBlock(1, modelSeries([]api.Entry{file("..", "")})),
	} {
		checkError(t, api.ErrArchive, nil, lock, "m", wrong)
		checkError(t, api.ErrArchive, moved("vendor/m", some...), lock, "m", wrong)
	}
	for k := range len(archive) {
		checkError(t, api.ErrArchive, nil, lock, "m", archive[:k])
	}
}

func TestInstallOfTreesThatAreOtherOnes(t *testing.T) {
	_, lock := packed(some...)
	for _, within := range trees() {
		if slices.Equal(within, some) {
			continue
		}
		archive, _ := packed(within...)
		checkInstallOf(t, api.ErrDigest, nil, lock, "m", archive, within)
		// Nor does it count what stands there already.
		checkInstallOf(t, api.ErrDigest, moved("vendor/m", some...), lock, "m", archive, within)
		checkInstallOf(t, api.ErrDigest, moved("vendor/m", within...), lock, "m", archive, within)
	}
}

func TestInstallIfVendorIsAFile(t *testing.T) {
	for _, stage := range stages() {
		for _, within := range trees() {
			checkInstall(t, api.ErrPlace, within, append(slices.Clone(stage), file("vendor", ""))...)
			checkInstall(t, api.ErrPlace, within, append([]api.Entry{file("vendor", "x")}, stage...)...)
		}
	}
	checkInstall(t, api.OK, some, file("vendors", ""), dir("a"), file("a/vendor", ""))
}

// Paths joined with vendor/NAME have at most 64 bytes and 6 names.
func TestInstallOfPathsThatAreTooLong(t *testing.T) {
	name := "sixteen_bytes_16"
	long := moved(name+"/"+name, file(name, "")) // 50 bytes
	for n := 1; n <= 16; n++ {
		module := name[:n]
		archive, lock := packed(long...)
		no := api.OK
		if len("vendor/")+n+1+50 > 64 {
			no = api.ErrPlace
		}
		lock = strings.Replace(lock, "m", module, 1)
		checkInstallOf(t, no, nil, lock, module, archive, long)
		checkInstallOf(t, no, moved("vendor/"+module, file("x", "")), lock, module, archive, long)
	}
	for n, no := range map[int]api.Errno{1: api.OK, 2: api.OK, 3: api.OK, 4: api.OK, 5: api.ErrPlace, 6: api.ErrPlace} {
		deep := moved("a" + strings.Repeat("/a", n-1))
		checkInstall(t, no, deep)
		checkInstall(t, no, append(slices.Clone(deep), some...))
		checkInstall(t, no, append([]api.Entry{file("z", "")}, deep...), moved("vendor/m", file("x", ""))...)
	}
}

// The disk is counted as it is, with stage, with vendor and with what stands in the place.
func TestInstallOfADiskThatIsFull(t *testing.T) {
	for _, within := range trees() {
		for _, begin := range [][]api.Entry{nil, {dir("vendor")}, moved("vendor/m", file("old", "x")), moved("stage", some...), append(moved("stage", some...), moved("vendor/m", some...)...), {file("stage", "")}, append([]api.Entry{dir("vendor")}, file("vendor/m", "x"))} {
			rest := 200 - len(within) - 3 - len(begin)
			for more, no := range map[int]api.Errno{-1: api.OK, 0: api.OK, 1: api.ErrPlace, 2: api.ErrPlace, 3: api.ErrPlace} {
				checkInstall(t, no, within, append(slices.Clone(begin), moved("o", rows(rest+more-1)...)...)...)
			}
			bytes := 40000 - bytesIn(within) - bytesIn(begin)
			checkInstall(t, api.OK, within, append(slices.Clone(begin), file("o", strings.Repeat("x", bytes)))...)
			if bytesIn(within) > 0 {
				checkInstall(t, api.ErrPlace, within, append(slices.Clone(begin), file("o", strings.Repeat("x", bytes+1)))...)
			}
		}
	}
	// All of it at stage, or all of it in the place.
	full := filled(rows(60), 8000)
	for more, no := range map[int]api.Errno{-1: api.OK, 0: api.OK, 1: api.ErrPlace} {
		checkInstall(t, no, full, moved("stage", filled(rows(136+more), 32000)...)...)
		checkInstall(t, no, full, moved("vendor/m", filled(rows(135+more), 32000)...)...)
		checkInstall(t, no, full, moved("stage", filled(rows(136), 32000+more)...)...)
		checkInstall(t, no, full, moved("vendor/m", filled(rows(135), 32000+more)...)...)
		checkInstall(t, no, nil, moved("vendor/m", filled(rows(195+more), 39000)...)...)
	}
}

// What is wrong is told also where the tree stands there already, and nothing would be done.
func TestInstallIfThereIsNothingToDoAndNoPlace(t *testing.T) {
	full := filled(rows(60), 8000)
	home := moved("vendor/m", full...)
	checkInstall(t, api.OK, full, append(slices.Clone(home), moved("o", rows(200-60-3-62-1)...)...)...)
	checkInstall(t, api.ErrPlace, full, append(slices.Clone(home), moved("o", rows(200-60-3-62)...)...)...)
	checkInstall(t, api.OK, full, append(slices.Clone(home), file("o", strings.Repeat("x", 24000)))...)
	checkInstall(t, api.ErrPlace, full, append(slices.Clone(home), file("o", strings.Repeat("x", 24001)))...)
	checkInstall(t, api.ErrPlace, nil, append(moved("vendor/m"), rows(197)...)...)
}

// Of several errors it is the one that the promise names first.
func TestInstallTellsWhatComesFirst(t *testing.T) {
	archive, lock := packed(some...)
	_, other := packed()
	bad := []api.Entry{file("x/y", ""), file("vendor", "")}
	noPlace := []api.Entry{file("vendor", "")}
	checkError(t, api.ErrTree, bad, "?", "", "")
	checkError(t, api.ErrTree, bad, lock, "x", "")
	checkError(t, api.ErrTree, bad, lock, "m", "")
	checkError(t, api.ErrTree, bad, other, "m", archive)
	checkError(t, api.ErrTree, bad, lock, "m", archive)
	checkError(t, api.ErrLine, noPlace, lock+"?", "x", "")
	checkError(t, api.ErrLine, noPlace, lock+"?", "m", "")
	checkError(t, api.ErrLine, noPlace, other+"?", "m", archive)
	checkError(t, api.ErrLine, noPlace, lock+"?", "m", archive)
	checkError(t, api.ErrName, noPlace, lock, "x", "")
	checkError(t, api.ErrName, noPlace, other, "x", archive)
	checkError(t, api.ErrName, noPlace, lock, "x", archive)
	checkError(t, api.ErrArchive, noPlace, other, "m", "")
	checkError(t, api.ErrArchive, noPlace, lock, "m", "")
	checkError(t, api.ErrArchive, noPlace, lock, "m", archive+"x")
	checkError(t, api.ErrDigest, noPlace, other, "m", archive)
	checkError(t, api.ErrDigest, rows(200), other, "m", archive)
	checkError(t, api.ErrPlace, noPlace, lock, "m", archive)
	deep := moved("a/a/a/a/a")
	archive, lock = packed(deep...)
	checkError(t, api.ErrDigest, nil, other, "m", archive)
	checkError(t, api.ErrPlace, nil, lock, "m", archive)
}

func TestInstallOfChance(t *testing.T) {
	r := rand.New(rand.NewSource(122))
	count := map[api.Errno]int{}
	for range 1500 {
		disk, l := someDisk(r)
		if r.Intn(2) == 0 {
			disk = append(disk, moved("stage", fitting("stage", someTree(r, r.Intn(20)))...)...)
		}
		within := someTree(r, r.Intn(20))
		if r.Intn(4) > 0 {
			within = fitting("vendor/a-", within)
		}
		m := r.Intn(len(l))
		if r.Intn(5) > 0 {
			l[m].Digest = digestOf(within...)
		}
		lock := linesOf(l)
		switch r.Intn(12) {
		case 0:
			disk = spoil(r, disk)
		case 1:
			lock = change(r, lock)
		case 2:
			disk = append(disk, moved("o", rows(max(0, 190-len(disk)-r.Intn(20)))...)...)
		}
		name := l[m].Name
		if r.Intn(20) == 0 {
			name += "?"
		}
		archive, _ := packed(within...)
		no := modelInstall(disk, lock, name, within)
		count[no]++
		checkInstallOf(t, no, shuffled(r, disk), lock, name, archive, within)
	}
	for _, no := range []api.Errno{api.OK, api.ErrTree, api.ErrLine, api.ErrName, api.ErrDigest, api.ErrPlace} {
		if count[no] < 25 {
			t.Errorf("too few of a kind: %v", count)
		}
	}
}

func TestInstallAnswersNewMemory(t *testing.T) {
	archive, lock := packed(some...)
	disk := append(moved("vendor/m", file("old", "")), moved("stage", some...)...)
	first, _ := bindery.Install(disk, lock, "m", archive)
	second, _ := bindery.Install(disk, lock, "m", archive)
	was := slices.Clone(second)
	first = first[:cap(first)]
	for i := range first {
		first[i] = api.Act{Kind: 77}
	}
	if !slices.Equal(second, was) {
		t.Errorf("P2: %v is changed by writing into another list", second)
	}
	checkInstall(t, api.OK, some, disk...)
}

func TestInstallHangsOnItsArgumentsAlone(t *testing.T) {
	archive, lock := packed(some...)
	disk := append(moved("vendor/m", file("old", "")), moved("stage", some...)...)
	want, _ := bindery.Install(disk, lock, "m", archive)
	var group sync.WaitGroup
	for k := range 16 {
		group.Go(func() {
			checkInstall(t, api.OK, rows(k), moved("vendor/m", rows(k/2)...)...)
			// All of them read this one.
			if again, no := bindery.Install(disk, lock, "m", archive); !slices.Equal(again, want) || no != api.OK {
				t.Errorf("P2: %v, and again %v, %d", want, again, no)
			}
		})
	}
	group.Wait()
}

func TestInstallLeavesNoGoroutine(t *testing.T) {
	before := runtime.NumGoroutine()
	archive, lock := packed(rows(60)...)
	disk := moved("vendor/m", rows(60)...)
	for range 100 {
		bindery.Install(disk, lock, "m", archive)
	}
	// One that has done its work may still be counted for a moment.
	for range 100 {
		if runtime.NumGoroutine() <= before {
			return
		}
		time.Sleep(10 * time.Millisecond)
	}
	t.Errorf("P2: %d goroutines ahead of the calls, %d behind", before, runtime.NumGoroutine())
}

func FuzzInstall(f *testing.F) {
	archive, lock := packed(some...)
	f.Add("vendor", "vendor/m", "stage", lock, "m", archive)
	f.Add("stage", "stage/n", "stage/n/n", lock, "m", archive)
	f.Fuzz(func(t *testing.T, a, b, c, lock, name, archive string) {
		disk := []api.Entry{dir(a), dir(b), file(c, "x")}
		acts, no := bindery.Install(disk, lock, name, archive)
		within, e := bindery.Unpack(archive)
		switch want := modelInstall(disk, lock, name, within); {
		case e != api.OK && (want == api.OK || want > api.ErrName):
			if len(acts) != 0 || no != api.ErrArchive {
				t.Errorf("P12: %v, %d, want %d", acts, no, api.ErrArchive)
			}
		case want != no || no != api.OK && len(acts) > 0:
			t.Errorf("P12: %v, %d, want %d", acts, no, want)
		case no == api.OK:
			checkActs(t, disk, acts, name, within)
		}
		checkRecover(t, disk...)
	})
}
