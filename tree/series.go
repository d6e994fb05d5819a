package tree

import (
	"strconv"
	"strings"

	"bindery/api"
)

const (
	seriesHead = "bindery 1\n"
	endMark    = "end"
	space      = " "
	lineFeed   = "\n"
)

// Series writes the tree as the bytes that are packed.
func (t Tree) Series() string {
	l := t.Entries()
	var b strings.Builder
	b.WriteString(seriesHead)
	for _, e := range l {
		b.WriteString(piece(e))
	}
	b.WriteString(endMark + space + strconv.Itoa(len(l)) + lineFeed)
	return b.String()
}

// piece is what a series has of one entry.
func piece(e api.Entry) string {
	if e.Dir {
		return directoryMark + space + e.Path + lineFeed
	}
	count := strconv.Itoa(len(e.Body))
	return fileMark + space + count + space + e.Path + lineFeed + e.Body + lineFeed
}

// FromSeries tells the tree whose series s is, and whether it is one's.
func FromSeries(s string) (Tree, bool) {
	l, ok := readEntries(strings.TrimPrefix(s, seriesHead))
	if !ok {
		return Tree{}, false
	}
	t, no, _ := Of(l)
	// A tree has one series: if s is another text, by its order, a number or any byte, it is none.
	if no != api.OK || t.Series() != s {
		return Tree{}, false
	}
	return t, true
}

// readEntries tells what a series would say if it were one: what is behind its head, up to its first end.
func readEntries(s string) ([]api.Entry, bool) {
	var l []api.Entry
	for {
		line, rest, found := strings.Cut(s, lineFeed)
		if !found {
			return nil, false
		}
		mark, told, _ := strings.Cut(line, space)
		if mark == endMark {
			return l, true
		}
		e, used, ok := readEntry(mark, told, rest)
		if !ok {
			return nil, false
		}
		l = append(l, e)
		s = rest[used:]
	}
}

// readEntry tells the entry of a line, and how many bytes behind the line are the entry's too.
func readEntry(mark, told, behind string) (api.Entry, int, bool) {
	switch mark {
	case directoryMark:
		return api.Entry{Path: told, Dir: true}, 0, true
	case fileMark:
		count, path, _ := strings.Cut(told, space)
		n, err := strconv.Atoi(count)
		if err == nil && 0 <= n && n < len(behind) {
			return api.Entry{Path: path, Body: behind[:n]}, n + 1, true
		}
	}
	return api.Entry{}, 0, false
}
