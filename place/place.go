// Package place tells what stands where on a disk, and by which acts a module comes into its place.
package place

import (
	"slices"

	"bindery/api"
	"bindery/sum"
	"bindery/tree"
)

// Standing tells of each module how it stands on a disk.
func Standing(disk []api.Entry, modules []api.Locked) []int {
	stands := make([]int, len(modules))
	for i, m := range modules {
		stands[i] = standingOf(disk, m)
	}
	return stands
}

func standingOf(disk []api.Entry, m api.Locked) int {
	home := homeOf(m.Name)
	if find(disk, home) < 0 {
		return api.Absent
	}
	if t, ok := treeAt(disk, home); ok && sum.Text(t.Digest()) == m.Digest {
		return api.Good
	}
	return api.Wrong
}

// holds tells whether a directory at a path holds just the tree, told in its order. It asks for the tree itself, as another one may have the same digest.
func holds(disk []api.Entry, path string, within []api.Entry) bool {
	t, ok := treeAt(disk, path)
	return ok && slices.Equal(t.Entries(), within)
}

// treeAt tells the tree that a directory at a path holds, and whether there is one: a disk may have a file there, or more than a tree may.
func treeAt(disk []api.Entry, path string) (tree.Tree, bool) {
	i := find(disk, path)
	if i < 0 || !disk[i].Dir {
		return tree.Tree{}, false
	}
	t, no, _ := tree.Of(tree.Within(disk, path))
	return t, no == api.OK
}

// homeOf tells the path at which a module stands.
func homeOf(name string) string { return tree.Join(api.Vendor, name) }

// find tells the number of the entry that is at a path, or -1.
func find(disk []api.Entry, path string) int {
	return slices.IndexFunc(disk, func(e api.Entry) bool { return e.Path == path })
}
