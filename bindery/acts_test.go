package bindery_test

import (
	"math/rand"
	"slices"
	"strings"
	"testing"

	"bindery/api"
)

// What is promised of acts, said here once more, for the tests to play what Install and Recover answer.

func isAtOrWithin(path, place string) bool {
	return path == place || strings.HasPrefix(path, place+"/")
}

// byPath is an order, for lists to be held against each other.
func byPath(l []api.Entry) []api.Entry {
	return slices.SortedFunc(slices.Values(l), func(a, b api.Entry) int { return strings.Compare(a.Path, b.Path) })
}

// standsAt lists what is at a place and within it, by the disk's own paths.
func standsAt(disk []api.Entry, place string) []api.Entry {
	return byPath(slices.DeleteFunc(slices.Clone(disk), func(e api.Entry) bool { return !isAtOrWithin(e.Path, place) }))
}

// without lists what is neither at nor within one of the places.
func without(disk []api.Entry, places ...string) []api.Entry {
	return byPath(slices.DeleteFunc(slices.Clone(disk), func(e api.Entry) bool {
		return slices.ContainsFunc(places, func(place string) bool { return isAtOrWithin(e.Path, place) })
	}))
}

func isThere(disk []api.Entry, path string) bool {
	return slices.ContainsFunc(disk, func(e api.Entry) bool { return e.Path == path })
}

// isFree tells whether something new may be at a path.
func isFree(disk []api.Entry, path string) bool {
	return !isThere(disk, path) && modelHasParent(disk, file(path, ""))
}

// done does an act, and tells whether it could be done.
func done(disk []api.Entry, a api.Act) ([]api.Entry, bool) {
	var left, made []api.Entry
	can := false
	switch a.Kind {
	case api.Mkdir:
		can = isFree(disk, a.Path) && a == api.Act{Kind: api.Mkdir, Path: a.Path}
		left, made = disk, []api.Entry{dir(a.Path)}
	case api.Write:
		can = isFree(disk, a.Path) && a == api.Act{Kind: api.Write, Path: a.Path, Body: a.Body}
		left, made = disk, []api.Entry{file(a.Path, a.Body)}
	case api.Remove:
		can = len(standsAt(disk, a.Path)) == 1 && a == api.Act{Kind: api.Remove, Path: a.Path}
		left = without(disk, a.Path)
	case api.Move:
		can = isThere(disk, a.Path) && isFree(disk, a.To) && !isAtOrWithin(a.To, a.Path) && a.Body == ""
		left = without(disk, a.Path)
		for _, e := range standsAt(disk, a.Path) {
			e.Path = a.To + strings.TrimPrefix(e.Path, a.Path)
			made = append(made, e)
		}
	}
	next := slices.Concat(left, made)
	// What was left was part of a disk: to look at all of it behind each act would take long.
	isDisk := len(next) <= 200 && bytesIn(next) <= 40000 && !slices.ContainsFunc(made, func(e api.Entry) bool { return !modelMayBe(e) })
	return next, can && isDisk
}

func bytesIn(l []api.Entry) int {
	n := 0
	for _, e := range l {
		n += len(e.Body)
	}
	return n
}

// play does the acts one after the other, and lets see look at the disk behind the first ones of them, however many (behind none, too).
func play(t *testing.T, disk []api.Entry, acts []api.Act, see func(disk []api.Entry)) []api.Entry {
	t.Helper()
	if len(acts) > 600 {
		t.Fatalf("there are %d acts", len(acts))
	}
	see(disk)
	for i, a := range acts {
		next, can := done(disk, a)
		if !can {
			t.Fatalf("act %d of %d can not be done: %+v\non %s", i, len(acts), a, brief(disk))
		}
		disk = next
		see(disk)
	}
	if !modelIsDisk(disk) {
		t.Fatalf("behind %v it is no disk: %s", acts, brief(disk))
	}
	return disk
}

// The model itself: what can be done, and what can not.
func TestActsOfTheModel(t *testing.T) {
	disk := []api.Entry{dir("a"), file("a/x", "1"), dir("a/b"), dir("e"), file("f", "2"), dir("l"), dir("l/l"), dir("l/l/l"), dir("l/l/l/l"), dir("l/l/l/l/l")}
	for _, c := range []struct {
		act api.Act
		can bool
	}{
		{api.Act{Kind: api.Mkdir, Path: "n"}, true}, {api.Act{Kind: api.Mkdir, Path: "a/b/n"}, true}, {api.Act{Kind: api.Mkdir, Path: "a"}, false}, {api.Act{Kind: api.Mkdir, Path: "f"}, false}, {api.Act{Kind: api.Mkdir, Path: "f/n"}, false}, {api.Act{Kind: api.Mkdir, Path: "n/n"}, false}, {api.Act{Kind: api.Mkdir, Path: ""}, false}, {api.Act{Kind: api.Mkdir, Path: "n", Body: "x"}, false}, {api.Act{Kind: api.Mkdir, Path: "n", To: "o"}, false}, {api.Act{Kind: api.Mkdir, Path: ".."}, false},
		{api.Act{Kind: api.Write, Path: "n", Body: "x"}, true}, {api.Act{Kind: api.Write, Path: "a/b/n"}, true}, {api.Act{Kind: api.Write, Path: "f"}, false}, {api.Act{Kind: api.Write, Path: "f/n"}, false}, {api.Act{Kind: api.Write, Path: "n", To: "o"}, false}, {api.Act{Kind: api.Write, Path: "n", Body: strings.Repeat("x", 39998)}, true}, {api.Act{Kind: api.Write, Path: "n", Body: strings.Repeat("x", 39999)}, false},
		{api.Act{Kind: api.Remove, Path: "f"}, true}, {api.Act{Kind: api.Remove, Path: "a/b"}, true}, {api.Act{Kind: api.Remove, Path: "a"}, false}, {api.Act{Kind: api.Remove, Path: "n"}, false}, {api.Act{Kind: api.Remove, Path: "f", Body: "2"}, false}, {api.Act{Kind: api.Remove, Path: "f", To: "f"}, false},
		{api.Act{Kind: api.Move, Path: "a", To: "n"}, true}, {api.Act{Kind: api.Move, Path: "a", To: "e/n"}, true}, {api.Act{Kind: api.Move, Path: "f", To: "a/b/f"}, true}, {api.Act{Kind: api.Move, Path: "a", To: "e"}, false}, {api.Act{Kind: api.Move, Path: "a", To: "a"}, false}, {api.Act{Kind: api.Move, Path: "a", To: "a/b/a"}, false}, {api.Act{Kind: api.Move, Path: "a", To: "f/n"}, false}, {api.Act{Kind: api.Move, Path: "n", To: "o"}, false}, {api.Act{Kind: api.Move, Path: "f", To: "n", Body: "2"}, false}, {api.Act{Kind: api.Move, Path: "a", To: ""}, false}, {api.Act{Kind: api.Move, Path: "l", To: "e/l"}, true}, {api.Act{Kind: api.Move, Path: "l", To: "a/b/l"}, false},
		{api.Act{}, false}, {api.Act{Kind: 5, Path: "n"}, false},
	} {
		if _, can := done(disk, c.act); can != c.can {
			t.Errorf("%+v: %t", c.act, can)
		}
	}
	disk, _ = done(disk, api.Act{Kind: api.Move, Path: "a", To: "e/n"})
	if want := []api.Entry{dir("e"), dir("e/n"), dir("e/n/b"), file("e/n/x", "1"), file("f", "2")}; !slices.Equal(without(disk, "l"), want) {
		t.Errorf("%v", disk)
	}
}

// stages are what may be at stage when a call begins.
func stages() [][]api.Entry {
	deep := moved("stage/b/c/d/e", file("f", "x"))
	name := "sixteen_bytes_16"
	long := moved("stage/"+name+"/"+name+"/"+name, file("2345678", "x"))
	return [][]api.Entry{
		nil, {file("stage", "")}, {file("stage", "x")}, {dir("stage")}, deep, long,
		moved("stage", file("n", ""), file("o", "")), moved("stage", dir("n"), dir("o"), dir("o/p"), file("o/p/q", "x"), file("n/a", "y")),
		moved("stage", dir("a"), dir("a."), file("a./b", ""), file("a/b", ""), dir("a-"), file("a-/b", ""), file("a0", "")),
		moved("stage/stage/vendor/a", some...), moved("stage", fitting("stage", someTree(rand.New(rand.NewSource(120)), 40))...),
	}
}

// fitting lists the entries that have a path in a place. A directory that has none has nothing within it that has one.
func fitting(place string, l []api.Entry) []api.Entry {
	return slices.DeleteFunc(slices.Clone(l), func(e api.Entry) bool { return !modelMayBe(dir(place + "/" + e.Path)) })
}

func TestStagesAreDisks(t *testing.T) {
	for _, stage := range stages() {
		if !modelIsDisk(stage) || len(without(stage, "stage")) != 0 {
			t.Errorf("%s is none", brief(stage))
		}
	}
}
