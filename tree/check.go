package tree

import "bindery/api"

// check tells the first rule by which the entries are no tree, and the number of the first one that breaks it.
func check(l []api.Entry) (api.Errno, int) {
	if tooMany(l) {
		return api.ErrMany, 0
	}
	if i := firstWrong(l); i < len(l) {
		return api.ErrPath, i
	}
	if i := firstTwice(l); i < len(l) {
		return api.ErrTwice, i
	}
	if i := firstAlone(l); i < len(l) {
		return api.ErrParent, i
	}
	return api.OK, 0
}

func tooMany(l []api.Entry) bool {
	if len(l) > api.MaxEntries {
		return true
	}
	all := 0
	for _, e := range l {
		all += len(e.Body)
	}
	return all > api.MaxAll
}

// firstWrong finds the first entry that may not be; as the others here, it answers len(l) if there is none.
func firstWrong(l []api.Entry) int {
	for i, e := range l {
		if !IsPath(e.Path) || e.Dir && e.Body != "" {
			return i
		}
	}
	return len(l)
}

// firstTwice finds the first entry whose path one ahead of it has.
func firstTwice(l []api.Entry) int {
	seen := map[string]int{}
	for i, e := range l {
		if _, ok := seen[e.Path]; ok {
			return i
		}
		seen[e.Path] = i
	}
	return len(l)
}

// firstAlone finds the first entry whose path has a parent that is not there as a directory, ahead of it or behind.
func firstAlone(l []api.Entry) int {
	directories := map[string]int{}
	for i, e := range l {
		if e.Dir {
			directories[e.Path] = i
		}
	}
	for i, e := range l {
		parent, _ := cut(e.Path)
		if _, ok := directories[parent]; !ok && parent != "" {
			return i
		}
	}
	return len(l)
}
