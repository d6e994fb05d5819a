package tree

import (
	"strings"

	"bindery/api"
)

const slash = "/"

// IsName tells whether s may stand between the slashes of a path.
func IsName(s string) bool {
	if s == "" || len(s) > api.MaxName || s == "." || s == ".." {
		return false
	}
	for i := range len(s) {
		if !isNameByte(s[i]) {
			return false
		}
	}
	return true
}

func isNameByte(c byte) bool {
	switch {
	case 'a' <= c && c <= 'z', 'A' <= c && c <= 'Z', '0' <= c && c <= '9':
		return true
	}
	return c == '.' || c == '_' || c == '-'
}

// IsPath tells whether s is names with slashes between, not too many, and not too long together.
func IsPath(s string) bool {
	if len(s) > api.MaxPath {
		return false
	}
	names := strings.Split(s, slash)
	if len(names) > api.MaxDeep {
		return false
	}
	for _, name := range names {
		if !IsName(name) {
			return false
		}
	}
	return true
}

// cut tells a path's parent and its last name. The parent of a path that has none is empty, which no path is.
func cut(path string) (parent, name string) {
	i := strings.LastIndex(path, slash)
	if i < 0 {
		return "", path
	}
	return path[:i], path[i+1:]
}

// Join tells the path that one has within another.
func Join(outer, inner string) string { return outer + slash + inner }

// Within lists what is within a path, by the paths that it has there.
func Within(l []api.Entry, path string) []api.Entry {
	var inner []api.Entry
	for _, e := range l {
		if rest, ok := strings.CutPrefix(e.Path, path+slash); ok {
			inner = append(inner, api.Entry{Path: rest, Dir: e.Dir, Body: e.Body})
		}
	}
	return inner
}
