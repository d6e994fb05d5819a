package tree

import (
	"slices"
	"strconv"
	"strings"
	"testing"

	"bindery/api"
	"bindery/sum"
)

// small is a tree with all that a tree has, not in its order.
func small() []api.Entry {
	return []api.Entry{{Path: "c", Body: "y"}, {Path: "b/a", Body: "x"}, {Path: "b-", Dir: true}, {Path: "b", Dir: true}}
}

const smallSeries = "bindery 1\nd b\nf 1 b/a\nx\nd b-\nf 1 c\ny\nend 4\n"

func inOrder() []api.Entry {
	l := small()
	return []api.Entry{l[3], l[1], l[2], l[0]}
}

func made(t *testing.T, l []api.Entry) Tree {
	t.Helper()
	made, no, at := Of(l)
	if no != api.OK || at != 0 {
		t.Fatalf("Of(%v): %d, %d", l, no, at)
	}
	return made
}

func TestOfMakesFilesAndDirectories(t *testing.T) {
	nodes := made(t, small()).nodes
	if len(nodes) != 3 {
		t.Fatalf("%v", nodes)
	}
	b, isDirectory := nodes[0].(directory)
	if !isDirectory || b.name() != "b" || len(b.within.nodes) != 1 || b.within.nodes[0] != (file{"a", "x"}) {
		t.Errorf("%v", nodes[0])
	}
	if empty, ok := nodes[1].(directory); !ok || empty.name() != "b-" || len(empty.within.nodes) != 0 {
		t.Errorf("%v", nodes[1])
	}
	if nodes[2] != (file{"c", "y"}) {
		t.Errorf("%v", nodes[2])
	}
}

func TestOfTellsWhyItIsNone(t *testing.T) {
	for _, c := range []struct {
		l  []api.Entry
		no api.Errno
		at int
	}{
		{make([]api.Entry, api.MaxEntries+1), api.ErrMany, 0},
		{append(small(), api.Entry{Path: "a/"}), api.ErrPath, 4},
		{append(small(), api.Entry{Path: "b"}), api.ErrTwice, 4},
		{append(small(), api.Entry{Path: "c/a"}), api.ErrParent, 4},
	} {
		if got, no, at := Of(c.l); got.nodes != nil || no != c.no || at != c.at {
			t.Errorf("Of(%v) = %v, %d, %d, want %d, %d", c.l, got, no, at, c.no, c.at)
		}
	}
}

func TestIsDiskHasBoundsOfItsOwn(t *testing.T) {
	var l []api.Entry
	for i := range api.MaxFiles {
		l = append(l, api.Entry{Path: "n" + strconv.Itoa(i), Body: strings.Repeat("x", api.MaxDisk/api.MaxFiles)})
	}
	if !IsDisk(nil) || !IsDisk(small()) || !IsDisk(l) {
		t.Errorf("these are disks")
	}
	if IsDisk(append(slices.Clone(l[1:]), api.Entry{Path: "a", Body: l[0].Body + "x"})) || IsDisk(append(l, api.Entry{Path: "a"})) {
		t.Errorf("too much is no disk")
	}
	for _, e := range []api.Entry{{Path: "a/"}, {Path: "b"}, {Path: "c/a"}, {Path: "d", Dir: true, Body: "x"}} {
		if IsDisk(append(small(), e)) {
			t.Errorf("with %v it is no disk", e)
		}
	}
}

func TestEntriesAreInOrderAndNew(t *testing.T) {
	a := made(t, small())
	for range 2 {
		l := a.Entries()
		if !slices.Equal(l, inOrder()) {
			t.Errorf("%v", l)
		}
		l = l[:cap(l)]
		for i := range l {
			l[i] = api.Entry{Path: "over"}
		}
	}
}

func TestDigestOfADirectoryIsThatOfItsTree(t *testing.T) {
	within := made(t, []api.Entry{{Path: "a", Body: "x"}}).Digest()
	whole := made(t, []api.Entry{{Path: "b", Dir: true}, {Path: "b/a", Body: "x"}}).Digest()
	if want := sum.Of("ddb/" + string(within[:])); whole != want {
		t.Errorf("%x, want %x", whole, want)
	}
	if none, want := (Tree{}).Digest(), sum.Of("d"); none != want {
		t.Errorf("%x, want %x", none, want)
	}
}

func TestSeriesThereAndBack(t *testing.T) {
	if s := made(t, small()).Series(); s != smallSeries {
		t.Errorf("%q", s)
	}
	back, ok := FromSeries(smallSeries)
	if l := back.Entries(); !ok || !slices.Equal(l, inOrder()) {
		t.Errorf("%v, %v", l, ok)
	}
}

func TestSeriesWithAByteChanged(t *testing.T) {
	for i := range len(smallSeries) {
		for _, with := range []string{"", "\n", " ", "0", "/", "\x00", smallSeries[i:i+1] + smallSeries[i:i+1]} {
			s := smallSeries[:i] + with + smallSeries[i+1:]
			back, ok := FromSeries(s)
			if ok && back.Series() != s || !ok && back.nodes != nil {
				t.Errorf("FromSeries(%q) = %v, %v", s, back, ok)
			}
		}
	}
}
