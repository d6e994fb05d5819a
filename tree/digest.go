package tree

import (
	"strings"
	"sync"

	"bindery/sum"
)

// What tells files and directories apart, in digests and in series.
const (
	fileMark      = "f"
	directoryMark = "d"
)

// Digest tells the digest of a directory that holds the tree.
func (t Tree) Digest() [sum.Size]byte {
	told := make([]string, len(t.nodes))
	var group sync.WaitGroup
	for i, n := range t.nodes {
		group.Go(func() { told[i] = toldOf(n) })
	}
	group.Wait()
	return sum.Of(directoryMark + strings.Join(told, ""))
}

// toldOf is what the digest of a directory takes of one that stands in it.
func toldOf(n node) string {
	var mark string
	var digest [sum.Size]byte
	switch n := n.(type) {
	case file:
		mark, digest = fileMark, sum.Of(fileMark+n.body)
	case directory:
		mark, digest = directoryMark, n.within.Digest()
	}
	return mark + n.name() + slash + string(digest[:])
}
