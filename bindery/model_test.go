package bindery_test

import (
	"crypto/sha256"
	"fmt"
	"math/rand"
	"regexp"
	"slices"
	"strings"
	"testing"

	"bindery/api"
)

// What is promised of trees, said here once more and in other ways, for the tests to hold the calls against.

var aPath = regexp.MustCompile(`\A[A-Za-z0-9._-]{1,16}(/[A-Za-z0-9._-]{1,16}){0,5}\z`)

var aDotName = regexp.MustCompile(`(\A|/)\.\.?(/|\z)`)

func dir(path string) api.Entry { return api.Entry{Path: path, Dir: true} }

func file(path, body string) api.Entry { return api.Entry{Path: path, Body: body} }

func namesOf(e api.Entry) []string { return strings.Split(e.Path, "/") }

func modelMayBe(e api.Entry) bool {
	isPath := aPath.MatchString(e.Path) && !aDotName.MatchString(e.Path) && len(e.Path) <= 64
	return isPath && !(e.Dir && e.Body != "")
}

func modelHasParent(l []api.Entry, e api.Entry) bool {
	names := namesOf(e)
	return len(names) == 1 || slices.Contains(l, dir(strings.Join(names[:len(names)-1], "/")))
}

// modelCheck tells what P6 asks for.
func modelCheck(l []api.Entry) (api.Errno, int) { return modelCheckOf(l, 60, 8000) }

func modelIsDisk(l []api.Entry) bool {
	no, _ := modelCheckOf(l, 200, 40000)
	return no == api.OK
}

func modelCheckOf(l []api.Entry, mostEntries, mostBytes int) (api.Errno, int) {
	bytes := 0
	for _, e := range l {
		bytes += len(e.Body)
	}
	if len(l) > mostEntries || bytes > mostBytes {
		return api.ErrMany, 0
	}
	for i, e := range l {
		if !modelMayBe(e) {
			return api.ErrPath, i
		}
	}
	for i, e := range l {
		if slices.ContainsFunc(l[:i], func(o api.Entry) bool { return o.Path == e.Path }) {
			return api.ErrTwice, i
		}
	}
	for i, e := range l {
		if !modelHasParent(l, e) {
			return api.ErrParent, i
		}
	}
	return api.OK, 0
}

func inOrder(l []api.Entry) []api.Entry {
	sorted := slices.Clone(l)
	slices.SortFunc(sorted, func(a, b api.Entry) int { return slices.Compare(namesOf(a), namesOf(b)) })
	return sorted
}

func rawSum(s string) string {
	sum := sha256.Sum256([]byte(s))
	return string(sum[:])
}

// modelDigest tells the 32 bytes of what stands below the names.
func modelDigest(l []api.Entry, names ...string) string {
	text := "d"
	for _, e := range inOrder(l) {
		parent, name := namesOf(e)[:len(namesOf(e))-1], namesOf(e)[len(namesOf(e))-1]
		if !slices.Equal(parent, names) {
			continue
		}
		if e.Dir {
			text += "d" + name + "/" + modelDigest(l, namesOf(e)...)
		} else {
			text += "f" + name + "/" + rawSum("f"+e.Body)
		}
	}
	return rawSum(text)
}

func modelSeries(l []api.Entry) string {
	text := "bindery 1\n"
	for _, e := range inOrder(l) {
		if e.Dir {
			text += fmt.Sprintf("d %s\n", e.Path)
		} else {
			text += fmt.Sprintf("f %d %s\n%s\n", len(e.Body), e.Path, e.Body)
		}
	}
	return text + fmt.Sprintf("end %d\n", len(l))
}

// someTree makes one of at most n entries, in any order. Its names are few and alike, so that the order is put to the test.
func someTree(r *rand.Rand, n int) []api.Entry {
	names := []string{"a", "b", "B", "a.", "a-", "a_", "a0", "aa", "Z", "..a", "-", "0", "9", "sixteen_bytes_16"}
	parents := []string{""}
	var l []api.Entry
	for range n {
		e := file(parents[r.Intn(len(parents))]+names[r.Intn(len(names))], words(r, r.Intn(100)))
		if r.Intn(2) == 0 {
			e = dir(e.Path)
		}
		if no, _ := modelCheck(append(slices.Clone(l), e)); no != api.OK {
			continue
		}
		l = append(l, e)
		if e.Dir {
			parents = append(parents, e.Path+"/")
		}
	}
	return shuffled(r, l)
}

func shuffled(r *rand.Rand, l []api.Entry) []api.Entry {
	l = slices.Clone(l)
	r.Shuffle(len(l), func(i, j int) { l[i], l[j] = l[j], l[i] })
	return l
}

// allOrders calls see with the list in each order.
func allOrders(l []api.Entry, see func(l []api.Entry)) {
	var turn func(k int)
	turn = func(k int) {
		if k == len(l) {
			see(slices.Clone(l))
		}
		for i := k; i < len(l); i++ {
			l[k], l[i] = l[i], l[k]
			turn(k + 1)
			l[k], l[i] = l[i], l[k]
		}
	}
	turn(0)
}

// guarded hands see a list with spare room, and fails if one of its elements, or of the spare ones, is changed.
func guarded(t *testing.T, l []api.Entry, see func(l []api.Entry)) {
	t.Helper()
	guardedBy(t, l, []api.Entry{dir("spare0"), file("spare1", "spare"), dir("spare2"), file("spare3", "")}, see)
}

func guardedBy[T comparable](t *testing.T, l, spare []T, see func(l []T)) {
	t.Helper()
	room := slices.Concat(l, spare)
	was := slices.Clone(room)
	see(room[:len(l)])
	if !slices.Equal(room, was) {
		t.Errorf("P2: a list that was handed in, or its spare room, was %.200v, and is %.200v", was, room)
	}
}

// brief tells the first of what may be a long list or text.
func brief(v any) string {
	if s, ok := v.(string); ok {
		return fmt.Sprintf("%.300q", s)
	}
	return fmt.Sprintf("%.300s", fmt.Sprintf("%.100q", v))
}
