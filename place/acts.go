package place

import (
	"slices"
	"strings"

	"bindery/api"
	"bindery/tree"
)

// Where at stage a tree stands that is not yet, and one that is no longer, in its place. No path is longer or deeper there than in vendor.
const (
	coming = api.Stage + "/n"
	going  = api.Stage + "/o"
)

// Recover lists the acts that leave nothing at stage.
func Recover(disk []api.Entry) []api.Act { return removals(pathsAt(disk, api.Stage)) }

// Install lists the acts that put a module's tree, told in its order, into its place. The disk must have room for it.
func Install(disk []api.Entry, name string, within []api.Entry) []api.Act {
	home := homeOf(name)
	// What an earlier crash left would be in the way, and there may be room only for one tree.
	acts := Recover(disk)
	if holds(disk, home, within) {
		return acts
	}
	acts = append(acts, api.Act{Kind: api.Mkdir, Path: api.Stage})
	acts = append(acts, laying(coming, within)...)
	acts = append(acts, exchange(disk, home)...)
	return append(acts, api.Act{Kind: api.Remove, Path: api.Stage})
}

// exchange lists the acts by which what is coming takes the place of what stands there. That goes away as one, as half of it may never stand there either.
func exchange(disk []api.Entry, home string) []api.Act {
	var acts []api.Act
	if find(disk, api.Vendor) < 0 {
		acts = append(acts, api.Act{Kind: api.Mkdir, Path: api.Vendor})
	}
	old := pathsAt(disk, home)
	if len(old) > 0 {
		acts = append(acts, api.Act{Kind: api.Move, Path: home, To: going})
	}
	acts = append(acts, api.Act{Kind: api.Move, Path: coming, To: home})
	for i, path := range old {
		old[i] = going + strings.TrimPrefix(path, home)
	}
	return append(acts, removals(old)...)
}

// laying lists the acts that make a directory with a tree, told in its order: so no entry comes ahead of its parent.
func laying(path string, within []api.Entry) []api.Act {
	acts := []api.Act{{Kind: api.Mkdir, Path: path}}
	for _, e := range within {
		kind := api.Write
		if e.Dir {
			kind = api.Mkdir
		}
		acts = append(acts, api.Act{Kind: kind, Path: tree.Join(path, e.Path), Body: e.Body})
	}
	return acts
}

// removals lists the acts that remove what is at the paths, the last of them first: so what is within a directory goes ahead of it.
func removals(paths []string) []api.Act {
	sorted := slices.Sorted(slices.Values(paths))
	var acts []api.Act
	for _, path := range slices.Backward(sorted) {
		acts = append(acts, api.Act{Kind: api.Remove, Path: path})
	}
	return acts
}

// pathsAt lists a path, if something is there, and those of all that is within it.
func pathsAt(disk []api.Entry, path string) []string {
	var paths []string
	if find(disk, path) >= 0 {
		paths = append(paths, path)
	}
	for _, e := range tree.Within(disk, path) {
		paths = append(paths, tree.Join(path, e.Path))
	}
	return paths
}
