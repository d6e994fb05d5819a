// Package place tells what stands where on a disk, and by which acts a module comes into its place.
package place

import (
	"slices"

	"bindery/api"
	"bindery/sum"
	"bindery/tree"
)

// Standing tells of each module how it stands on a disk.
func Standing(disk []api.Entry, modules []api.Locked) []int {
	stands := make([]int, len(modules))
	for i, m := range modules {
		stands[i] = standingOf(disk, m)
	}
	return stands
}

func standingOf(disk []api.Entry, m api.Locked) int {
	home := homeOf(m.Name)
	i := find(disk, home)
	switch {
	case i < 0:
		return api.Absent
	case disk[i].Dir && hasDigest(tree.Within(disk, home), m.Digest):
		return api.Good
	}
	return api.Wrong
}

// hasDigest tells whether the entries are a tree of that digest. A disk may have more in one place than a tree may.
func hasDigest(l []api.Entry, digest string) bool {
	t, no, _ := tree.Of(l)
	return no == api.OK && sum.Text(t.Digest()) == digest
}

// homeOf tells the path at which a module stands.
func homeOf(name string) string { return tree.Join(api.Vendor, name) }

// find tells the number of the entry that is at a path, or -1.
func find(disk []api.Entry, path string) int {
	return slices.IndexFunc(disk, func(e api.Entry) bool { return e.Path == path })
}
