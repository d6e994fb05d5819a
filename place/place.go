// Package place tells what stands where on a disk.
package place

import (
	"slices"

	"bindery/api"
	"bindery/sum"
	"bindery/tree"
)

// Standing tells of each module how it stands on a disk.
func Standing(disk []api.Entry, modules []api.Locked) []int {
	stands := make([]int, len(modules))
	for i, m := range modules {
		stands[i] = standingOf(disk, m)
	}
	return stands
}

func standingOf(disk []api.Entry, m api.Locked) int {
	home := tree.Join(api.Vendor, m.Name)
	i := slices.IndexFunc(disk, func(e api.Entry) bool { return e.Path == home })
	switch {
	case i < 0:
		return api.Absent
	case disk[i].Dir && hasDigest(tree.Within(disk, home), m.Digest):
		return api.Good
	}
	return api.Wrong
}

// hasDigest tells whether the entries are a tree of that digest. A disk may have more in one place than a tree may.
func hasDigest(l []api.Entry, digest string) bool {
	t, no, _ := tree.Of(l)
	return no == api.OK && sum.Text(t.Digest()) == digest
}
