package tree

import (
	"slices"
	"strings"
	"testing"

	"bindery/api"
)

func TestNames(t *testing.T) {
	for _, s := range []string{"a", "Z", "0", "_", "-", "...", ".a", "a.", "..a", "sixteen_bytes_16"} {
		if !IsName(s) {
			t.Errorf("%q is a name", s)
		}
	}
	for _, s := range []string{"", ".", "..", "a/b", "/", "a b", "a\n", "é", "\x00", "`", "{", "@", "[", ":", ",", "^", "seventeen_bytes17"} {
		if IsName(s) {
			t.Errorf("%q is no name", s)
		}
	}
}

func TestPaths(t *testing.T) {
	sixteen := "0123456789abcdef"
	long := strings.Repeat(sixteen[:15]+"/", 3) + sixteen // 64 bytes
	for _, s := range []string{"a", "a/b", "a/b/c/d/e/f", sixteen, long, ".../a"} {
		if !IsPath(s) {
			t.Errorf("%q is a path", s)
		}
	}
	for _, s := range []string{"", "/", "a/", "/a", "a//b", "a/./b", "../a", "a/b/c/d/e/f/g", sixteen + "g", long[:63] + "/a", "a\n/b"} {
		if IsPath(s) {
			t.Errorf("%q is no path", s)
		}
	}
}

func TestCut(t *testing.T) {
	for _, c := range []struct{ path, parent, name string }{{"a", "", "a"}, {"a/b", "a", "b"}, {"a/b/c", "a/b", "c"}} {
		if parent, name := cut(c.path); parent != c.parent || name != c.name {
			t.Errorf("cut(%q) = %q, %q", c.path, parent, name)
		}
	}
}

func TestJoin(t *testing.T) {
	if path := Join("a/b", "c/d"); path != "a/b/c/d" {
		t.Errorf("%q", path)
	}
}

func TestWithinIsNewAndHasWhatIsBelowAlone(t *testing.T) {
	l := []api.Entry{{Path: "a/b/c", Body: "x"}, {Path: "a", Dir: true}, {Path: "a/b", Dir: true}, {Path: "ab", Body: "y"}, {Path: "b", Dir: true}, {Path: "b/a", Dir: true}, {Path: "b/a/b", Body: "z"}}
	was := slices.Clone(l)
	want := []api.Entry{{Path: "b/c", Body: "x"}, {Path: "b", Dir: true}}
	for range 2 {
		inner := Within(l, "a")
		if !slices.Equal(inner, want) {
			t.Errorf("%v, want %v", inner, want)
		}
		inner = inner[:cap(inner)]
		for i := range inner {
			inner[i] = api.Entry{Path: "over"}
		}
	}
	for _, path := range []string{"ab", "a/b/c", "c", "A"} {
		if inner := Within(l, path); len(inner) != 0 {
			t.Errorf("within %q: %v", path, inner)
		}
	}
	if !slices.Equal(l, was) {
		t.Errorf("%v is changed", l)
	}
}
