package tree

import (
	"strings"
	"testing"
)

func TestNames(t *testing.T) {
	for _, s := range []string{"a", "Z", "0", "_", "-", "...", ".a", "a.", "..a", "sixteen_bytes_16"} {
		if !IsName(s) {
			t.Errorf("%q is a name", s)
		}
	}
	for _, s := range []string{"", ".", "..", "a/b", "/", "a b", "a\n", "é", "\x00", "`", "{", "@", "[", ":", ",", "^", "seventeen_bytes17"} {
		if IsName(s) {
			t.Errorf("%q is no name", s)
		}
	}
}

func TestPaths(t *testing.T) {
	sixteen := "0123456789abcdef"
	long := strings.Repeat(sixteen[:15]+"/", 3) + sixteen // 64 bytes
	for _, s := range []string{"a", "a/b", "a/b/c/d/e/f", sixteen, long, ".../a"} {
		if !IsPath(s) {
			t.Errorf("%q is a path", s)
		}
	}
	for _, s := range []string{"", "/", "a/", "/a", "a//b", "a/./b", "../a", "a/b/c/d/e/f/g", sixteen + "g", long[:63] + "/a", "a\n/b"} {
		if IsPath(s) {
			t.Errorf("%q is no path", s)
		}
	}
}

func TestCut(t *testing.T) {
	for _, c := range []struct{ path, parent, name string }{{"a", "", "a"}, {"a/b", "a", "b"}, {"a/b/c", "a/b", "c"}} {
		if parent, name := cut(c.path); parent != c.parent || name != c.name {
			t.Errorf("cut(%q) = %q, %q", c.path, parent, name)
		}
	}
}
