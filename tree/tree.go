// Package tree holds trees of files: what is one, its order, its digest and its series of bytes.
package tree

import (
	"slices"
	"strings"

	"bindery/api"
)

// Tree is what a directory holds.
type Tree struct {
	nodes []node // their names rise, byte by byte
}

// node is a file or a directory, by the name that it has where it stands.
type node interface {
	name() string
}

type file struct {
	called string
	body   string
}

type directory struct {
	called string
	within Tree
}

func (f file) name() string { return f.called }

func (d directory) name() string { return d.called }

// Of makes a tree of entries in whatever order. If they are none, it tells why, and the number of the entry.
func Of(l []api.Entry) (Tree, api.Errno, int) {
	if no, at := check(l, bounds{entries: api.MaxEntries, bytes: api.MaxAll}); no != api.OK {
		return Tree{}, no, at
	}
	return below(l, ""), api.OK, 0
}

// below gathers what stands at the parent. It is asked once for each directory, and ends as no path is below itself.
func below(l []api.Entry, parent string) Tree {
	var t Tree
	for _, e := range l {
		at, name := cut(e.Path)
		switch {
		case at != parent:
		case e.Dir:
			t.nodes = append(t.nodes, directory{called: name, within: below(l, e.Path)})
		default:
			t.nodes = append(t.nodes, file{called: name, body: e.Body})
		}
	}
	slices.SortFunc(t.nodes, func(a, b node) int { return strings.Compare(a.name(), b.name()) })
	return t
}

// Entries lists the tree in its order.
func (t Tree) Entries() []api.Entry { return t.entriesAt("") }

// entriesAt lists the tree with a text ahead of each path. A directory comes ahead of what is within it.
func (t Tree) entriesAt(ahead string) []api.Entry {
	var l []api.Entry
	for _, n := range t.nodes {
		path := ahead + n.name()
		switch n := n.(type) {
		case file:
			l = append(l, api.Entry{Path: path, Body: n.body})
		case directory:
			l = append(l, api.Entry{Path: path, Dir: true})
			l = append(l, n.within.entriesAt(path+slash)...)
		}
	}
	return l
}
