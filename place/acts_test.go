package place

import (
	"slices"
	"testing"

	"bindery/api"
)

func check(t *testing.T, got []api.Act, want ...api.Act) {
	t.Helper()
	if !slices.Equal(got, want) {
		t.Errorf("%+v, want %+v", got, want)
	}
}

func mkdir(path string) api.Act { return api.Act{Kind: api.Mkdir, Path: path} }

func remove(path string) api.Act { return api.Act{Kind: api.Remove, Path: path} }

func move(path, to string) api.Act { return api.Act{Kind: api.Move, Path: path, To: to} }

func TestInstallOnAnEmptyDisk(t *testing.T) {
	within := []api.Entry{{Path: "a", Dir: true}, {Path: "a/b", Body: "x"}}
	check(t, Install(nil, "m", within),
		mkdir("stage"), mkdir("stage/n"), mkdir("stage/n/a"), api.Act{Kind: api.Write, Path: "stage/n/a/b", Body: "x"},
		mkdir("vendor"), move("stage/n", "vendor/m"), remove("stage"))
}

func TestInstallInThePlaceOfAnother(t *testing.T) {
	disk := []api.Entry{{Path: "stage", Dir: true}, {Path: "stage/n"}, {Path: "vendor", Dir: true}, {Path: "vendor/m", Dir: true}, {Path: "vendor/m/a", Dir: true}, {Path: "vendor/m/a/b"}, {Path: "vendor/mm"}}
	was := slices.Clone(disk)
	check(t, Install(disk, "m", nil),
		remove("stage/n"), remove("stage"), mkdir("stage"), mkdir("stage/n"),
		move("vendor/m", "stage/o"), move("stage/n", "vendor/m"), remove("stage/o/a/b"), remove("stage/o/a"), remove("stage/o"), remove("stage"))
	if !slices.Equal(disk, was) {
		t.Errorf("the disk is changed: %v", disk)
	}
}

func TestInstallOfWhatStandsThere(t *testing.T) {
	within := []api.Entry{{Path: "a", Dir: true}, {Path: "a/b", Body: "x"}}
	disk := []api.Entry{{Path: "vendor/m/a/b", Body: "x"}, {Path: "vendor/m/a", Dir: true}, {Path: "vendor", Dir: true}, {Path: "vendor/m", Dir: true}}
	check(t, Install(disk, "m", within))
	check(t, Install(append(disk, api.Entry{Path: "stage"}), "m", within), remove("stage"))
	check(t, Install(disk[2:], "m", nil))
}

func TestInstallOfWhatIsUnlikeInOneBody(t *testing.T) {
	disk := []api.Entry{{Path: "vendor", Dir: true}, {Path: "vendor/m", Dir: true}, {Path: "vendor/m/a", Body: "x"}}
	check(t, Install(disk, "m", []api.Entry{{Path: "a", Body: "y"}}),
		mkdir("stage"), mkdir("stage/n"), api.Act{Kind: api.Write, Path: "stage/n/a", Body: "y"},
		move("vendor/m", "stage/o"), move("stage/n", "vendor/m"), remove("stage/o/a"), remove("stage/o"), remove("stage"))
}

func TestRecoverRemovesWhatIsWithinFirst(t *testing.T) {
	disk := []api.Entry{{Path: "stage", Dir: true}, {Path: "stage/a", Dir: true}, {Path: "stage/a.", Dir: true}, {Path: "stage/a/b"}, {Path: "stage/a./b"}, {Path: "stages"}, {Path: "vendor", Dir: true}}
	check(t, Recover(disk), remove("stage/a/b"), remove("stage/a./b"), remove("stage/a."), remove("stage/a"), remove("stage"))
	check(t, Recover(disk[5:]))
	check(t, Recover(nil))
}

func TestHasRoom(t *testing.T) {
	disk := make([]api.Entry, 0, api.MaxFiles)
	within := []api.Entry{{Path: "a", Body: "xx"}}
	for len(disk) < api.MaxFiles-4 {
		disk = append(disk, api.Entry{Path: "o"})
	}
	if !HasRoom(disk, "m", within) || HasRoom(append(disk, api.Entry{Path: "o"}), "m", within) {
		t.Errorf("vendor, stage and the tree's directory count beside the tree")
	}
	bytes := func(n int) []api.Entry { return []api.Entry{{Path: "o", Body: string(make([]byte, n))}} }
	if !HasRoom(bytes(api.MaxDisk-2), "m", within) || HasRoom(bytes(api.MaxDisk-1), "m", within) {
		t.Errorf("the bytes of the tree count beside those of the disk")
	}
	if HasRoom([]api.Entry{{Path: "vendor"}}, "m", within) || !HasRoom([]api.Entry{{Path: "vendor", Dir: true}}, "m", within) {
		t.Errorf("vendor may be a directory, and no file")
	}
	if HasRoom(nil, "m", []api.Entry{{Path: "a/b/c/d/e"}}) || !HasRoom(nil, "m", []api.Entry{{Path: "a/b/c/d"}}) {
		t.Errorf("a path has at most six names in vendor, too")
	}
}
