package bindery_test

import (
	"math/rand"
	"slices"
	"strings"
	"testing"

	"bindery/api"
	"bindery/bindery"
)

// Whether a tree stands in its place already is asked of the tree, not of its digest. No two trees of one digest are known: so .ci/run plays the tests of this file a second time, with a sum that is the same for all texts. Hence the digests here are those that the program tells, and none is reckoned otherwise.

// actsOf tells the acts that put a tree at vendor/m, and looks behind each of them.
func actsOf(t *testing.T, within []api.Entry, disk ...api.Entry) []api.Act {
	t.Helper()
	digest, _, _ := bindery.Digest(within)
	archive, _, _ := bindery.Pack(within)
	var acts []api.Act
	guarded(t, disk, func(disk []api.Entry) {
		t.Helper()
		var no api.Errno
		acts, no = bindery.Install(disk, "m 1 "+digest+"\n", "m", archive)
		if no != api.OK {
			t.Fatalf("P12: Install(%s) of %s = %d", brief(disk), brief(within), no)
		}
		checkActs(t, disk, acts, "m", within)
	})
	return acts
}

// isRemoval tells whether the acts do no more than clear stage.
func isRemoval(acts []api.Act) bool {
	return !slices.ContainsFunc(acts, func(a api.Act) bool { return a.Kind != api.Remove || !isAtOrWithin(a.Path, "stage") })
}

// checkStays asks for a tree that stands there already.
func checkStays(t *testing.T, within []api.Entry, disk ...api.Entry) {
	t.Helper()
	acts := actsOf(t, within, disk...)
	if !isRemoval(acts) || len(acts) != len(standsAt(disk, "stage")) {
		t.Errorf("P12: %s stands there, and yet the acts are %v", brief(within), acts)
	}
}

// checkReplaced asks for a tree in whose place another one stands.
func checkReplaced(t *testing.T, within, other []api.Entry, more ...api.Entry) {
	t.Helper()
	if slices.Equal(byPath(within), byPath(other)) {
		t.Fatalf("the test says that %s are two", brief(within))
	}
	if acts := actsOf(t, within, append(moved("vendor/m", other...), more...)...); isRemoval(acts) {
		t.Errorf("P12: in the place of %s stands %s, and the acts are %v", brief(within), brief(other), acts)
	}
}

// renamed puts a path in the place of another, with all that is within it.
func renamed(l []api.Entry, path, to string) []api.Entry {
	l = slices.Clone(l)
	for i, e := range l {
		if isAtOrWithin(e.Path, path) {
			l[i].Path = to + strings.TrimPrefix(e.Path, path)
		}
	}
	return l
}

// put has an entry in the place of the one with the number i.
func put(l []api.Entry, i int, e api.Entry) []api.Entry {
	l = slices.Clone(l)
	l[i] = e
	return l
}

// unlikeAt lists trees that are unlike one in the Body, the path or the kind of the entry with the number i, or have it not.
func unlikeAt(l []api.Entry, i int) [][]api.Entry {
	e := l[i]
	last := len(e.Path) - 1
	all := [][]api.Entry{
		slices.Delete(slices.Clone(l), i, i+1),
		renamed(l, e.Path, e.Path+"_"), renamed(l, e.Path, e.Path[:last]), renamed(l, e.Path, e.Path[:last]+"~"), renamed(l, e.Path, e.Path[:last]+"Q"), renamed(l, e.Path, strings.ToUpper(e.Path)), renamed(l, e.Path, "elsewhere"),
	}
	if e.Dir {
		return append(all, put(l, i, file(e.Path, "")), put(l, i, file(e.Path, "x")))
	}
	all = append(all, put(l, i, dir(e.Path)), put(l, i, file(e.Path, e.Body+"x")), put(l, i, file(e.Path, "\x00"+e.Body)))
	if e.Body != "" {
		changed := []byte(e.Body)
		changed[len(changed)-1] ^= 1
		all = append(all, put(l, i, file(e.Path, "")), put(l, i, file(e.Path, e.Body[1:])), put(l, i, file(e.Path, string(changed))))
	}
	return all
}

// unlike lists trees that are unlike one in one thing. Of a great tree it takes some entries, the first among them.
func unlike(l []api.Entry) [][]api.Entry {
	all := [][]api.Entry{append(slices.Clone(l), file("one_more", "")), append(slices.Clone(l), dir("one_more"))}
	for i := 0; i < len(l); i += 1 + len(l)/8 {
		all = append(all, unlikeAt(l, i)...)
	}
	for i := 1; i < len(l); i++ {
		// Each entry is as one of the tree, but two Bodies have changed places.
		if a, b := l[i-1], l[i]; !a.Dir && !b.Dir {
			all = append(all, put(put(l, i-1, file(a.Path, b.Body)), i, file(b.Path, a.Body)))
		}
	}
	return slices.DeleteFunc(all, func(other []api.Entry) bool {
		return slices.Equal(byPath(other), byPath(l)) || !modelIsDisk(moved("vendor/m", other...))
	})
}

func TestUnlikeInAVendorThatHoldsTheTree(t *testing.T) {
	r := rand.New(rand.NewSource(181))
	for _, within := range trees() {
		for _, stage := range stages() {
			disk := slices.Concat(moved("vendor/m", within...), stage, neighbours(true))
			checkStays(t, within, disk...)
			slices.Reverse(disk)
			checkStays(t, within, disk...)
			checkStays(t, within, shuffled(r, disk)...)
		}
	}
}

func TestUnlikeInNothingButTheOrder(t *testing.T) {
	within := []api.Entry{dir("a"), file("a.", ""), file("a/b", "x"), file("c", "y")}
	allOrders(moved("vendor/m", within...), func(disk []api.Entry) { checkStays(t, within, disk...) })
	// Nor does it matter in which order the tree was packed.
	disk := moved("vendor/m", within...)
	allOrders(within, func(within []api.Entry) { checkStays(t, within, disk...) })
}

func TestUnlikeInOneThing(t *testing.T) {
	count := 0
	for _, within := range trees() {
		for _, other := range unlike(within) {
			count++
			checkReplaced(t, within, other)
		}
	}
	if count < 200 {
		t.Errorf("there are only %d that are unlike", count)
	}
}

func TestUnlikeInOneThingBesideOthers(t *testing.T) {
	for _, other := range unlike(some) {
		for _, stage := range stages() {
			// The tree itself stands at stage and in other places, and counts in none of them.
			copies := slices.Concat(moved("vendor/m.", some...)[1:], moved("vendor/M", some...)[1:], moved("m", some...), stage)
			checkReplaced(t, some, other, copies...)
		}
		checkReplaced(t, some, other, moved("stage/n", some...)...)
	}
}

func TestUnlikeInAllThings(t *testing.T) {
	for i, within := range trees() {
		for k, other := range trees() {
			if i != k {
				checkReplaced(t, within, other)
			}
		}
	}
}

// A file in the place holds no tree, not even that of no entries; nor does a place where nothing is.
func TestUnlikeInThePlaceItself(t *testing.T) {
	for _, within := range trees() {
		for _, disk := range [][]api.Entry{nil, {dir("vendor")}, {dir("vendor"), file("vendor/m", "")}, {dir("vendor"), file("vendor/m", "x")}, moved("vendor/n", within...), moved("vendor/M", within...)} {
			if acts := actsOf(t, within, disk...); isRemoval(acts) {
				t.Errorf("P12: on %s the acts are %v", brief(disk), acts)
			}
		}
	}
}

func TestUnlikeByChance(t *testing.T) {
	r := rand.New(rand.NewSource(182))
	for range 100 {
		within := fitting("vendor/m", someTree(r, 1+r.Intn(12)))
		checkStays(t, within, shuffled(r, moved("vendor/m", within...))...)
		all := unlike(within)
		for range 5 {
			checkReplaced(t, within, shuffled(r, all[r.Intn(len(all))]))
		}
	}
}

// How a module stands is another matter: that is told by the digest alone.
func TestUnlikeTreesOfOneDigestAreGood(t *testing.T) {
	digest, _, _ := bindery.Digest(some)
	for _, other := range unlike(some) {
		told, no, _ := bindery.Digest(other)
		want := api.Wrong
		if no == api.OK && told == digest {
			want = api.Good
		}
		how, no, _ := bindery.Verify(moved("vendor/m", other...), "m 1 "+digest+"\n")
		if no != api.OK || !slices.Equal(how, []int{want}) {
			t.Errorf("P11: %s stands as %v, %d, want %d", brief(other), how, no, want)
		}
	}
}
