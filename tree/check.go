package tree

import "bindery/api"

// bounds are how much a list of entries may have.
type bounds struct {
	entries int
	bytes   int // in all Bodies
}

// IsDisk tells whether the entries are a disk: by its bounds it is greater than a tree, by all else it is one.
func IsDisk(l []api.Entry) bool {
	no, _ := check(l, bounds{entries: api.MaxFiles, bytes: api.MaxDisk})
	return no == api.OK
}

// check tells the first rule by which the entries are no tree of these bounds, and the number of the first one that breaks it.
func check(l []api.Entry, most bounds) (api.Errno, int) {
	if tooMany(l, most) {
		return api.ErrMany, 0
	}
	if i := firstWrong(l); i < len(l) {
		return api.ErrPath, i
	}
	if i := firstTwice(l); i < len(l) {
		return api.ErrTwice, i
	}
	if i := firstAlone(l); i < len(l) {
		return api.ErrParent, i
	}
	return api.OK, 0
}

// tooMany counts down and stops below 0, so that no number of long Bodies wraps the count round.
func tooMany(l []api.Entry, most bounds) bool {
	if len(l) > most.entries {
		return true
	}
	left := most.bytes
	for _, e := range l {
		left -= len(e.Body)
		if left < 0 {
			return true
		}
	}
	return false
}

// firstWrong finds the first entry that may not be; as the others here, it answers len(l) if there is none.
func firstWrong(l []api.Entry) int {
	for i, e := range l {
		if !IsPath(e.Path) || e.Dir && e.Body != "" {
			return i
		}
	}
	return len(l)
}

// firstTwice finds the first entry whose path one ahead of it has.
func firstTwice(l []api.Entry) int {
	seen := map[string]int{}
	for i, e := range l {
		if _, ok := seen[e.Path]; ok {
			return i
		}
		seen[e.Path] = i
	}
	return len(l)
}

// firstAlone finds the first entry whose path has a parent that is not there as a directory, ahead of it or behind.
func firstAlone(l []api.Entry) int {
	directories := map[string]int{}
	for i, e := range l {
		if e.Dir {
			directories[e.Path] = i
		}
	}
	for i, e := range l {
		parent, _ := cut(e.Path)
		if _, ok := directories[parent]; !ok && parent != "" {
			return i
		}
	}
	return len(l)
}
