// Package lockfile reads and writes lock files: lines that tell of modules which trees they are.
package lockfile

import (
	"strings"

	"bindery/api"
	"bindery/sum"
	"bindery/tree"
)

const (
	space    = " "
	lineFeed = "\n"
)

// Read tells what the lines say. If one may not be there, it tells the number of the first such, from 1 on.
func Read(s string) ([]api.Locked, api.Errno, int) {
	var l []api.Locked
	for s != "" {
		line, rest, ended := strings.Cut(s, lineFeed)
		m := readLine(line)
		if !ended || !mayFollow(l, m) {
			return nil, api.ErrLine, len(l) + 1
		}
		l = append(l, m)
		s = rest
	}
	return l, api.OK, 0
}

// readLine parts a line at its first two spaces. No part may have another space, nor be empty: so what is read of a wrong line may not be.
func readLine(line string) api.Locked {
	name, behind, _ := strings.Cut(line, space)
	version, digest, _ := strings.Cut(behind, space)
	return api.Locked{Name: name, Version: version, Digest: digest}
}

// Print writes the lines. If a module may not be there, it tells the number of the first such, from 1 on.
func Print(l []api.Locked) (string, api.Errno, int) {
	var b strings.Builder
	for i, m := range l {
		if !mayFollow(l[:i], m) {
			return "", api.ErrLine, i + 1
		}
		b.WriteString(m.Name + space + m.Version + space + m.Digest + lineFeed)
	}
	return b.String(), api.OK, 0
}

// mayFollow tells whether a module may stand behind those that are ahead of it.
func mayFollow(ahead []api.Locked, m api.Locked) bool {
	if !tree.IsName(m.Name) || !tree.IsName(m.Version) || !sum.IsText(m.Digest) {
		return false
	}
	n := len(ahead)
	return n == 0 || n < api.MaxLocked && ahead[n-1].Name < m.Name
}
