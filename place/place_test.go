package place

import (
	"slices"
	"strconv"
	"strings"
	"testing"

	"bindery/api"
	"bindery/sum"
)

func TestStanding(t *testing.T) {
	digest := sum.Of("fx")
	good := sum.Text(sum.Of("dfn/" + string(digest[:])))
	disk := []api.Entry{
		{Path: "vendor/a/n", Body: "x"}, {Path: "vendor", Dir: true}, {Path: "vendor/a", Dir: true},
		{Path: "vendor/b", Body: "x"}, {Path: "vendor/c", Dir: true}, {Path: "vendor/c/n", Body: "y"}, {Path: "d", Dir: true}, {Path: "d/n", Body: "x"},
	}
	was := slices.Clone(disk)
	modules := []api.Locked{{Name: "a", Digest: good}, {Name: "b", Digest: good}, {Name: "c", Digest: good}, {Name: "d", Digest: good}}
	if got, want := Standing(disk, modules), []int{api.Good, api.Wrong, api.Wrong, api.Absent}; !slices.Equal(got, want) || !slices.Equal(disk, was) {
		t.Errorf("%v, want %v", got, want)
	}
	if got := Standing(disk, nil); len(got) != 0 {
		t.Errorf("%v", got)
	}
}

func TestTreeAtAPath(t *testing.T) {
	disk := []api.Entry{{Path: "a", Dir: true}, {Path: "a/x", Body: "1"}, {Path: "b", Body: "1"}, {Path: "ab", Dir: true}}
	if got, ok := treeAt(disk, "a"); !ok || !slices.Equal(got.Entries(), []api.Entry{{Path: "x", Body: "1"}}) {
		t.Errorf("%v, %t", got, ok)
	}
	if got, ok := treeAt(disk, "ab"); !ok || len(got.Entries()) != 0 {
		t.Errorf("an empty directory holds the tree of no entries: %v, %t", got, ok)
	}
	if _, ok := treeAt(disk, "b"); ok {
		t.Errorf("a file holds no tree")
	}
	if _, ok := treeAt(disk, "c"); ok {
		t.Errorf("nothing holds no tree")
	}
}

func TestTreeAtAPathOfTooMuch(t *testing.T) {
	disk := []api.Entry{{Path: "a", Dir: true}}
	for i := range api.MaxEntries {
		disk = append(disk, api.Entry{Path: "a/" + strconv.Itoa(i)})
	}
	if _, ok := treeAt(disk, "a"); !ok {
		t.Errorf("so many entries are a tree")
	}
	if _, ok := treeAt(append(disk, api.Entry{Path: "a/one_more"}), "a"); ok {
		t.Errorf("more entries than a tree may have are none")
	}
	disk[1].Body = strings.Repeat("x", api.MaxAll+1)
	if _, ok := treeAt(disk, "a"); ok {
		t.Errorf("more bytes than a tree may have are none")
	}
}

func TestHolds(t *testing.T) {
	within := []api.Entry{{Path: "a", Dir: true}, {Path: "a/b", Body: "x"}, {Path: "c", Dir: true}, {Path: "d"}}
	disk := []api.Entry{{Path: "m/d"}, {Path: "m/c", Dir: true}, {Path: "m/a/b", Body: "x"}, {Path: "m/a", Dir: true}, {Path: "m", Dir: true}, {Path: "mm", Body: "x"}}
	was := slices.Clone(disk)
	if !holds(disk, "m", within) || !slices.Equal(disk, was) {
		t.Errorf("in another order it is the same tree")
	}
	for _, c := range []struct {
		at int
		is api.Entry
	}{
		{0, api.Entry{Path: "m/d", Dir: true}}, {0, api.Entry{Path: "m/d", Body: "x"}}, {0, api.Entry{Path: "m/a/d"}}, {1, api.Entry{Path: "m/c"}}, {1, api.Entry{Path: "m/C", Dir: true}},
		{2, api.Entry{Path: "m/a/b", Body: "y"}}, {2, api.Entry{Path: "m/a/b"}}, {2, api.Entry{Path: "m/a/b."}}, {2, api.Entry{Path: "m/c/b", Body: "x"}},
	} {
		unlike := slices.Clone(disk)
		unlike[c.at] = c.is
		if holds(unlike, "m", within) {
			t.Errorf("%v is taken for %v", c.is, disk[c.at])
		}
	}
	if holds(disk[1:], "m", within) || holds(append(disk, api.Entry{Path: "m/e"}), "m", within) || holds(disk, "n", within) || holds(disk, "mm", nil) {
		t.Errorf("less or more is another tree, and nothing and a file are none")
	}
}
