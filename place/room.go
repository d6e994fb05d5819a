package place

import (
	"bindery/api"
	"bindery/tree"
)

// Beside the tree's own entries, a disk may have to take in vendor, stage and the directory that holds the tree.
const directoriesMore = 3

// HasRoom tells whether a module's tree could stand on a disk, in its place and, until it is whole, beside all that is there.
func HasRoom(disk []api.Entry, name string, within []api.Entry) bool {
	if i := find(disk, api.Vendor); i >= 0 && !disk[i].Dir {
		return false
	}
	for _, e := range within {
		if !tree.IsPath(tree.Join(homeOf(name), e.Path)) {
			return false
		}
	}
	entries := len(disk) + len(within) + directoriesMore
	return entries <= api.MaxFiles && bytesOf(disk)+bytesOf(within) <= api.MaxDisk
}

func bytesOf(l []api.Entry) int {
	n := 0
	for _, e := range l {
		n += len(e.Body)
	}
	return n
}
